package latch_test

import (
	"math"
	"slices"
	"testing"

	"quarterdeck/api"
	"quarterdeck/latch"
)

// telling are numbers around each bound of a latch, and the least and the greatest.
func telling() []int {
	return []int{math.MinInt, math.MinInt + 1, -1 << 32, -9, -8, -2, -1, 0, 1, 2, 3, 7, 8, 9, 10, 64, 1 << 32, math.MaxInt - 1, math.MaxInt}
}

// lines are numbers that differ from each other, and from 0; signs change from one to the next.
func lines(count int) []int {
	l := make([]int, count)
	for i := range l {
		l[i] = 1000 + i
		if i%2 == 1 {
			l[i] = -l[i]
		}
	}
	return l
}

// latches have all telling Depths and Droppeds, and from none to 12 Lines, so that there are such as may be and such as may not be.
func latches() []api.Latch {
	all := []api.Latch{{Lines: nil}, {Lines: []int{}}, {Depth: 8, Lines: []int{}}, {Depth: -1, Lines: []int{}}}
	for _, depth := range telling() {
		for _, dropped := range telling() {
			for count := range 13 {
				all = append(all, api.Latch{Depth: depth, Lines: lines(count), Dropped: dropped})
			}
		}
	}
	return all
}

// same holds latches against each other; a list without elements may be nil or empty.
func same(a, b api.Latch) bool {
	return a.Depth == b.Depth && slices.Equal(a.Lines, b.Lines) && a.Dropped == b.Dropped
}

// mayBe goes by the chapter's words, with the Depths that may be written out.
func mayBe(l api.Latch) bool {
	most := slices.Index([]int{0, 1, 2, 3, 4, 5, 6, 7, 8}, l.Depth)
	return most != -1 && !(len(l.Lines) > most) && !(l.Dropped < 0)
}

// offered goes by the chapter's words.
func offered(l api.Latch, line int) api.Latch {
	all := slices.Clone(l.Lines)
	if len(all) < l.Depth {
		return api.Latch{Depth: l.Depth, Lines: append(all, line), Dropped: l.Dropped}
	}
	return api.Latch{Depth: l.Depth, Lines: all, Dropped: int(uint(l.Dropped) + 1)}
}

// P6.1: each bound of the chapter, from both sides.
func TestMayAtEachBound(t *testing.T) {
	for _, c := range []struct {
		what string
		l    api.Latch
		want bool
	}{
		{"noughts", api.Latch{}, true},
		{"Depth -1", api.Latch{Depth: -1}, false},
		{"Depth 0, an empty list", api.Latch{Lines: []int{}}, true},
		{"Depth 0, one line", api.Latch{Lines: lines(1)}, false},
		{"Depth 1, none", api.Latch{Depth: 1}, true},
		{"Depth 1, one line", api.Latch{Depth: 1, Lines: lines(1)}, true},
		{"Depth 1, two lines", api.Latch{Depth: 1, Lines: lines(2)}, false},
		{"Depth 8, none", api.Latch{Depth: 8}, true},
		{"Depth 8, seven lines", api.Latch{Depth: 8, Lines: lines(7)}, true},
		{"Depth 8, eight lines", api.Latch{Depth: 8, Lines: lines(8)}, true},
		{"Depth 8, nine lines", api.Latch{Depth: 8, Lines: lines(9)}, false},
		{"Depth 9, none", api.Latch{Depth: 9}, false},
		{"Depth 9, eight lines", api.Latch{Depth: 9, Lines: lines(8)}, false},
		{"Depth 9, nine lines", api.Latch{Depth: 9, Lines: lines(9)}, false},
		{"the least Depth", api.Latch{Depth: math.MinInt}, false},
		{"the greatest Depth", api.Latch{Depth: math.MaxInt}, false},
		{"a Depth that is 8 in its low bits", api.Latch{Depth: 1<<32 + 8}, false},
		{"Dropped -1", api.Latch{Depth: 2, Dropped: -1}, false},
		{"Dropped 0", api.Latch{Depth: 2, Dropped: 0}, true},
		{"Dropped 1, though there is room", api.Latch{Depth: 2, Dropped: 1}, true},
		{"the greatest Dropped", api.Latch{Depth: 2, Dropped: math.MaxInt}, true},
		{"the least Dropped", api.Latch{Depth: 2, Dropped: math.MinInt}, false},
		{"the greatest Dropped of no Depth", api.Latch{Dropped: math.MaxInt}, true},
	} {
		if got := latch.May(c.l); got != c.want {
			t.Errorf("%s: %v", c.what, got)
		}
	}
}

// P6.1: Lines one fewer than Depth, as many, and one more, at every Depth that may be.
func TestMayByLines(t *testing.T) {
	for depth := 0; depth <= 8; depth++ {
		for count := max(depth-1, 0); count <= depth+1; count++ {
			if got := latch.May(api.Latch{Depth: depth, Lines: lines(count)}); got != (count <= depth) {
				t.Error(depth, count, got)
			}
		}
	}
}

// P6.1: all latches of telling numbers; what their lines are makes no difference.
func TestMayByTheChapter(t *testing.T) {
	for _, l := range latches() {
		if got := latch.May(l); got != mayBe(l) {
			t.Fatal(l, got)
		}
		for _, line := range []int{math.MinInt, -1, 0, math.MaxInt} {
			m := l
			m.Lines = slices.Repeat([]int{line}, len(l.Lines))
			if latch.May(m) != mayBe(l) {
				t.Fatal(m)
			}
		}
	}
}

// P6.2: the chapter's example: of two interrupts at a Depth of 1 the first one waits, and Dropped is 1.
func TestOfferOfTwo(t *testing.T) {
	l := latch.Offer(latch.Offer(api.Latch{Depth: 1}, 5), 6)
	if !same(l, api.Latch{Depth: 1, Lines: []int{5}, Dropped: 1}) {
		t.Error(l)
	}
}

// P6.2: an interrupt that waits, the last one that does, the one that is dropped, and those behind it.
func TestOfferInTurn(t *testing.T) {
	l := api.Latch{Depth: 3, Dropped: 4}
	for i, c := range []struct {
		line    int
		want    []int
		dropped int
	}{
		{7, []int{7}, 4}, {-7, []int{7, -7}, 4}, {7, []int{7, -7, 7}, 4}, {8, []int{7, -7, 7}, 5}, {7, []int{7, -7, 7}, 6}, {0, []int{7, -7, 7}, 7},
	} {
		l = latch.Offer(l, c.line)
		if !same(l, api.Latch{Depth: 3, Lines: c.want, Dropped: c.dropped}) {
			t.Fatal(i, l)
		}
	}
}

// P6.2: a latch of Depth 0, and one below it, drops each interrupt.
func TestOfferWithoutDepth(t *testing.T) {
	for _, depth := range []int{0, -1, math.MinInt} {
		for _, none := range [][]int{nil, {}} {
			l := api.Latch{Depth: depth, Lines: none}
			for count := 1; count <= 3; count++ {
				if l = latch.Offer(l, 5); !same(l, api.Latch{Depth: depth, Dropped: count}) {
					t.Fatal(depth, count, l)
				}
			}
		}
	}
}

// P6.2: numbers of lines that are negative, nought, the least and the greatest wait and are given as they are.
func TestLinesOfAnyNumber(t *testing.T) {
	for _, line := range telling() {
		l := latch.Offer(api.Latch{Depth: 3, Lines: []int{line, 4}}, line)
		if !same(l, api.Latch{Depth: 3, Lines: []int{line, 4, line}}) {
			t.Error("offer", line, l)
		}
		if g, m := latch.Give(l); !slices.Equal(g, []int{line, 4, line}) || !same(m, api.Latch{Depth: 3}) {
			t.Error("give", line, g, m)
		}
	}
}

// P6.2, R7: Dropped is counted on from what it was, and wraps around behind the greatest number.
func TestDroppedIsCountedOn(t *testing.T) {
	for dropped, want := range map[int]int{math.MinInt: math.MinInt + 1, -2: -1, -1: 0, 0: 1, 1: 2, math.MaxInt - 1: math.MaxInt, math.MaxInt: math.MinInt} {
		full := api.Latch{Depth: 1, Lines: []int{5}, Dropped: dropped}
		if l := latch.Offer(full, 6); !same(l, api.Latch{Depth: 1, Lines: []int{5}, Dropped: want}) {
			t.Error("full", dropped, l)
		}
		room := api.Latch{Depth: 2, Lines: []int{5}, Dropped: dropped}
		if l := latch.Offer(room, 6); !same(l, api.Latch{Depth: 2, Lines: []int{5, 6}, Dropped: dropped}) {
			t.Error("room", dropped, l)
		}
	}
}

// P6.2, R1: all latches of telling numbers, also such as may not be.
func TestOfferByTheChapter(t *testing.T) {
	for _, l := range latches() {
		for _, line := range []int{math.MinInt, -1, 0, 5, 1000, math.MaxInt} {
			if got := latch.Offer(l, line); !same(got, offered(l, line)) {
				t.Fatal(l, line, got)
			}
		}
	}
}

// P6.2, R1: what waits is given whole, also more than Depth; Depth and Dropped stay, whatever they are.
func TestGiveByTheChapter(t *testing.T) {
	for _, l := range latches() {
		want := slices.Clone(l.Lines)
		g, m := latch.Give(l)
		if !slices.Equal(g, want) || !same(m, api.Latch{Depth: l.Depth, Dropped: l.Dropped}) {
			t.Fatal(l, g, m)
		}
	}
}

// P6.2, R6: Give of a latch that has none, nil or empty, and twice in a row.
func TestGiveOfNone(t *testing.T) {
	for _, none := range [][]int{nil, {}} {
		l := api.Latch{Depth: 2, Lines: none, Dropped: 3}
		for range 2 {
			g, m := latch.Give(l)
			if len(g) != 0 || !same(m, api.Latch{Depth: 2, Dropped: 3}) {
				t.Error(none == nil, g, m)
			}
			l = m
		}
	}
	_, l := latch.Give(api.Latch{Depth: 2, Lines: []int{5, 6}, Dropped: 3})
	if g, m := latch.Give(l); len(g) != 0 || !same(m, api.Latch{Depth: 2, Dropped: 3}) {
		t.Error("the second one", g, m)
	}
}

// P6.2: a latch that gave has room again, as much as at first.
func TestOfferBehindGive(t *testing.T) {
	_, l := latch.Give(api.Latch{Depth: 2, Lines: []int{5, 6}, Dropped: 1})
	for _, line := range []int{7, 8, 9} {
		l = latch.Offer(l, line)
	}
	if !same(l, api.Latch{Depth: 2, Lines: []int{7, 8}, Dropped: 2}) {
		t.Error(l)
	}
}

// P6.3: in every run of twelve steps, an interrupt or Give at each, what is given is what was not dropped, in its order, and the others are counted.
func TestGivenOrDropped(t *testing.T) {
	const steps = 12
	for depth := -1; depth <= 9; depth++ {
		for run := range 1 << steps {
			checkRun(t, depth, run, steps)
		}
	}
}

func checkRun(t *testing.T, depth, run, steps int) {
	t.Helper()
	l := api.Latch{Depth: depth}
	var given, kept []int
	dropped, since := 0, 0
	for step := range steps {
		if run>>step&1 == 1 {
			var g []int
			g, l = latch.Give(l)
			given = append(given, g...)
			since = 0
			continue
		}
		l = latch.Offer(l, 100+step)
		if since < depth {
			kept = append(kept, 100+step)
			since++
		} else {
			dropped++
		}
	}
	if waits := append(slices.Clone(given), l.Lines...); !slices.Equal(waits, kept) || len(l.Lines) != since || l.Dropped != dropped || l.Depth != depth {
		t.Fatal(depth, run, given, l)
	}
}

// P6.3: a latch that may be stays one, whatever comes, till the greatest number of the dropped is behind it.
func TestMayStays(t *testing.T) {
	for _, l := range latches() {
		if !latch.May(l) || l.Dropped == math.MaxInt {
			continue
		}
		if m := latch.Offer(l, -5); !latch.May(m) {
			t.Fatal("offer", l, m)
		}
		if _, m := latch.Give(l); !latch.May(m) {
			t.Fatal("give", l, m)
		}
	}
}

// overwrite changes a list, also in the room behind its end.
func overwrite(l []int, with int) {
	l = l[:cap(l)]
	for i := range l {
		l[i] = with
	}
}

// R3: a latch that is handed in stays, also in the room behind the end of its list, whether an interrupt waits or is dropped.
func TestArgumentsStay(t *testing.T) {
	for size := 0; size <= 8; size++ {
		for depth := -1; depth <= 9; depth++ {
			room := lines(12)
			l := api.Latch{Depth: depth, Lines: room[:size], Dropped: 3}
			latch.May(l)
			latch.Offer(l, 77)
			latch.Give(l)
			if !slices.Equal(room, lines(12)) || !same(l, api.Latch{Depth: depth, Lines: lines(size), Dropped: 3}) {
				t.Fatal(size, depth, l, room)
			}
		}
	}
}

// R3: what is answered shares no memory with what was handed in, nor with another answer.
func TestAnswersAreTheCallersOwn(t *testing.T) {
	for size := 0; size <= 8; size++ {
		for _, depth := range []int{0, size, size + 1, 9} {
			room := lines(12)
			l := api.Latch{Depth: depth, Lines: room[:size]}
			first, second := latch.Offer(l, 77), latch.Offer(l, 77)
			given, left := latch.Give(l)
			again, _ := latch.Give(l)
			lists := [][]int{room, first.Lines, second.Lines, given, left.Lines, again}
			for i, one := range lists {
				overwrite(one, -i-1)
			}
			for i, one := range lists {
				if slices.ContainsFunc(one, func(n int) bool { return n != -i-1 }) {
					t.Fatal(size, depth, i, one)
				}
			}
		}
	}
}

// R3: two interrupts that are offered to one and the same answer do not meet.
func TestOfferToAnAnswerTwice(t *testing.T) {
	l := api.Latch{Depth: 8}
	for size := range 7 {
		a, b := latch.Offer(l, -1), latch.Offer(l, -2)
		want := lines(size)
		if !slices.Equal(a.Lines, append(slices.Clone(want), -1)) || !slices.Equal(b.Lines, append(want, -2)) {
			t.Fatal(size, a, b)
		}
		l = latch.Offer(l, lines(size + 1)[size])
	}
}

// R5: what is asked again is answered again, whatever was asked in between, and whatever room a list has.
func TestAnswersHangOnArgumentsAlone(t *testing.T) {
	for _, l := range latches() {
		may, o := latch.May(l), latch.Offer(l, 5)
		g, m := latch.Give(l)
		latch.May(api.Latch{Depth: 9})
		latch.Give(latch.Offer(latch.Offer(api.Latch{Depth: 1}, 6), 7))
		roomy := l
		roomy.Lines = append(make([]int, 0, 40), l.Lines...)
		for _, k := range []api.Latch{l, roomy} {
			h, n := latch.Give(k)
			if latch.May(k) != may || !same(latch.Offer(k, 5), o) || !slices.Equal(h, g) || !same(n, m) {
				t.Fatal(k)
			}
		}
	}
}
