package board_test

import (
	"math"
	"slices"
	"testing"

	"quarterdeck/api"
	"quarterdeck/board"
)

const (
	least = math.MinInt
	most  = math.MaxInt
)

// telling are numbers around codes and 0, some that differ above 32 bits, and the least and the greatest.
func telling() []int {
	return []int{least, least + 1, -1 << 32, -2, -1, 0, 1, 2, api.Blocked, 1 << 32, 1<<32 + 1, most - 1, most}
}

// waiting are those who wait with some priorities; all other fields are set, and of each other ones.
func waiting(prios ...int) []api.Wait {
	var l []api.Wait
	for i, prio := range prios {
		l = append(l, api.Wait{Proc: 100 + i, Prio: prio, Value: 200 + i})
	}
	return l
}

// lists are of nobody, one and several who wait, in and out of the order of priorities, of the same process, and of the least and the greatest numbers.
func lists() [][]api.Wait {
	return [][]api.Wait{
		nil,
		{},
		{{}},
		waiting(5),
		waiting(9, 5, 1),
		waiting(1, 5, 9),
		waiting(5, 5, 5, 5),
		waiting(3, 9, -4, 9, 0, 15, 2),
		{{Proc: 4, Prio: 1, Value: 9}, {Proc: 4, Prio: 1, Value: 9}, {Proc: 4, Prio: 2, Value: 8}},
		{{Proc: -1, Prio: -2, Value: -3}, {Proc: least, Prio: most, Value: least}, {Proc: most, Prio: least, Value: most}},
	}
}

// boards are all of these lists, with something on the board and nothing, of all telling values: also such as Write and Clear never answer.
func boards() []api.Board {
	var all []api.Board
	for _, l := range lists() {
		for _, value := range telling() {
			all = append(all, api.Board{Is: true, Value: value, L: l}, api.Board{Is: false, Value: value, L: l})
		}
	}
	return all
}

// readers are some who read: of greater, the same and lesser priorities than those who wait, one who waits already, and of telling numbers.
func readers() []api.Wait {
	all := []api.Wait{{}, {Proc: 2, Prio: 15, Value: 7}, {Proc: 2, Prio: 5, Value: 7}, {Proc: 100, Prio: 5, Value: 200}, {Proc: 4, Prio: 1, Value: 9}}
	for _, number := range telling() {
		all = append(all, api.Wait{Proc: number, Prio: ^number, Value: number}, api.Wait{Proc: 3, Prio: number, Value: ^number})
	}
	return all
}

// answer is all that a call may answer.
type answer struct {
	b           api.Board
	code, value int
	wakes       []api.Wake
}

// same holds answers against each other; a list without elements may be nil or empty.
func (a answer) same(o answer) bool {
	return a.b.Is == o.b.Is && a.b.Value == o.b.Value && slices.Equal(a.b.L, o.b.L) &&
		a.code == o.code && a.value == o.value && slices.Equal(a.wakes, o.wakes)
}

// written, cleared and read go by the chapter's words.
func written(b api.Board, value int) answer {
	var wakes []api.Wake
	for _, w := range b.L {
		wakes = append(wakes, api.Wake{Proc: w.Proc, Code: 0, Value: value})
	}
	return answer{b: api.Board{Is: true, Value: value}, wakes: wakes}
}

func cleared(b api.Board) answer {
	return answer{b: api.Board{L: slices.Clone(b.L)}}
}

func read(b api.Board, w api.Wait, may bool) answer {
	stays := api.Board{Is: b.Is, Value: b.Value, L: slices.Clone(b.L)}
	if b.Is {
		return answer{b: stays, code: api.NoError, value: b.Value}
	}
	if !may {
		return answer{b: stays, code: api.NotAvailable}
	}
	stays.L = append(stays.L, w)
	return answer{b: stays, code: api.Blocked}
}

// spoil writes over an answer's lists, and over the room behind their ends.
func spoil(a answer) {
	spoilWaits(a.b.L)
	for i := range a.wakes[:cap(a.wakes)] {
		a.wakes[:cap(a.wakes)][i] = api.Wake{Proc: -77, Code: -78, Value: -79}
	}
}

func spoilWaits(l []api.Wait) {
	for i := range l[:cap(l)] {
		l[:cap(l)][i] = api.Wait{Proc: -77, Prio: -78, Value: -79}
	}
}

// asHandedIn are a list with no room behind its end, and one with room in which others of the caller's lie.
func asHandedIn(l []api.Wait) [][]api.Wait {
	behind := []api.Wait{{Proc: 90, Prio: 91, Value: 92}, {Proc: 93, Prio: least, Value: 95}, {Proc: 96, Prio: 0, Value: 97}}
	return [][]api.Wait{slices.Clip(slices.Clone(l)), slices.Concat(l, behind)[:len(l)]}
}

// check holds an answer against what is wanted, and what is handed in and answered against the rules R3 and R5.
func check(t *testing.T, what string, b api.Board, want answer, do func(api.Board) answer) {
	t.Helper()
	for _, given := range asHandedIn(b.L) {
		was := slices.Clone(given[:cap(given)])
		stays := func() bool { return slices.Equal(given[:cap(given)], was) }
		handed := api.Board{Is: b.Is, Value: b.Value, L: given}
		got := do(handed)
		if !got.same(want) {
			t.Fatalf("%s, of %v: %v, not %v", what, b, got, want)
		}
		if !stays() {
			t.Fatalf("%s, of %v: what was handed in is another one", what, b)
		}
		again := do(handed)
		spoil(got)
		if !stays() {
			t.Fatalf("%s, of %v: what was handed in hangs on the answer", what, b)
		}
		if !again.same(want) || !do(handed).same(want) {
			t.Fatalf("%s, of %v: another answer", what, b)
		}
		spoilWaits(given)
		if !again.same(want) {
			t.Fatalf("%s, of %v: the answer hangs on what was handed in", what, b)
		}
	}
}

func checkWrite(t *testing.T, b api.Board, value int) {
	t.Helper()
	check(t, "Write", b, written(b, value), func(b api.Board) answer {
		b, wakes := board.Write(b, value)
		return answer{b: b, wakes: wakes}
	})
}

func checkClear(t *testing.T, b api.Board) {
	t.Helper()
	check(t, "Clear", b, cleared(b), func(b api.Board) answer { return answer{b: board.Clear(b)} })
}

func checkRead(t *testing.T, b api.Board, w api.Wait, may bool) {
	t.Helper()
	what := "Read that may not wait"
	if may {
		what = "Read that may wait"
	}
	check(t, what, b, read(b, w, may), func(b api.Board) answer {
		b, code, value := board.Read(b, w, may)
		return answer{b: b, code: code, value: value}
	})
}

// P13.1, P13.2: the chapter's example: an empty board, read by one that waits; Write 5: that goes on, with 5.
func TestExample(t *testing.T) {
	w := api.Wait{Proc: 3, Prio: 4, Value: 6}
	b, code, value := board.Read(api.Board{}, w, true)
	if b.Is || b.Value != 0 || !slices.Equal(b.L, []api.Wait{w}) || code != 6 || value != 0 {
		t.Error(b, code, value)
	}
	c, wakes := board.Write(b, 5)
	if !c.Is || c.Value != 5 || len(c.L) != 0 || !slices.Equal(wakes, []api.Wake{{Proc: 3, Code: 0, Value: 5}}) {
		t.Error(c, wakes)
	}
	if c, code, value = board.Read(c, w, true); !c.Is || c.Value != 5 || len(c.L) != 0 || code != 0 || value != 5 {
		t.Error(c, code, value)
	}
}

// P13.1: what stands on a board that is written, and who goes on, whatever stood there.
func TestWrite(t *testing.T) {
	two := []api.Wait{{Proc: 8, Prio: 1, Value: 70}, {Proc: 3, Prio: 9, Value: 71}}
	for _, c := range []struct {
		what  string
		b     api.Board
		value int
		wakes []api.Wake
	}{
		{"noughts", api.Board{}, 5, nil},
		{"noughts, 0", api.Board{}, 0, nil},
		{"an empty list", api.Board{L: []api.Wait{}}, 5, nil},
		{"over another one", api.Board{Is: true, Value: 4}, 5, nil},
		{"over the same", api.Board{Is: true, Value: 5}, 5, nil},
		{"0 over another one", api.Board{Is: true, Value: 4}, 0, nil},
		{"over 0", api.Board{Is: true}, 5, nil},
		{"over a value that does not stand there", api.Board{Value: 4}, 5, nil},
		{"one who waits", api.Board{L: two[:1]}, 5, []api.Wake{{Proc: 8, Value: 5}}},
		{"two who wait, as they came", api.Board{L: two}, 5, []api.Wake{{Proc: 8, Value: 5}, {Proc: 3, Value: 5}}},
		{"two who wait, 0", api.Board{L: two}, 0, []api.Wake{{Proc: 8}, {Proc: 3}}},
		{"two who wait though something stands there", api.Board{Is: true, Value: 4, L: two}, 5, []api.Wake{{Proc: 8, Value: 5}, {Proc: 3, Value: 5}}},
		{"one who waits twice", api.Board{L: []api.Wait{two[0], two[0]}}, -6, []api.Wake{{Proc: 8, Value: -6}, {Proc: 8, Value: -6}}},
	} {
		b, wakes := board.Write(c.b, c.value)
		if !b.Is || b.Value != c.value || len(b.L) != 0 || !slices.Equal(wakes, c.wakes) {
			t.Error(c.what, b, wakes)
		}
	}
}

// P13.1: nothing stands on a board that is cleared, whatever did, and who waits still does, with all that they have.
func TestClear(t *testing.T) {
	two := []api.Wait{{Proc: 8, Prio: 1, Value: 70}, {Proc: 3, Prio: 9, Value: 71}}
	for _, c := range []struct {
		what string
		b    api.Board
		l    []api.Wait
	}{
		{"noughts", api.Board{}, nil},
		{"an empty list", api.Board{L: []api.Wait{}}, nil},
		{"something", api.Board{Is: true, Value: 4}, nil},
		{"0", api.Board{Is: true}, nil},
		{"a value that does not stand there", api.Board{Value: 4}, nil},
		{"nothing, one who waits", api.Board{L: two[1:]}, two[1:]},
		{"nothing, two who wait", api.Board{L: two}, two},
		{"something, though two wait", api.Board{Is: true, Value: 4, L: two}, two},
		{"a value that does not stand there, two who wait", api.Board{Value: 4, L: two}, two},
	} {
		if b := board.Clear(c.b); b.Is || b.Value != 0 || !slices.Equal(b.L, c.l) {
			t.Error(c.what, b)
		}
	}
}

// P13.2: a board on which something stands is answered as it was, with NoError and its value, whether one may wait or not.
func TestReadOfSomething(t *testing.T) {
	l := []api.Wait{{Proc: 8, Prio: 1, Value: 70}, {Proc: 3, Prio: 9, Value: 71}}
	for _, value := range telling() {
		for n := range len(l) + 1 {
			for _, may := range []bool{false, true} {
				b, code, got := board.Read(api.Board{Is: true, Value: value, L: l[:n]}, api.Wait{Proc: 2, Prio: 5, Value: 7}, may)
				if !b.Is || b.Value != value || !slices.Equal(b.L, l[:n]) || code != api.NoError || got != value {
					t.Error(value, n, may, b, code, got)
				}
			}
		}
	}
}

// P13.2: who may not wait is answered NotAvailable and 0, also if the board has a value that does not stand there, and it is as it was.
func TestReadOfNothingByWhoMayNotWait(t *testing.T) {
	l := []api.Wait{{Proc: 8, Prio: 1, Value: 70}, {Proc: 3, Prio: 9, Value: 71}}
	for _, value := range telling() {
		for n := range len(l) + 1 {
			b, code, got := board.Read(api.Board{Value: value, L: l[:n]}, api.Wait{Proc: 2, Prio: 5, Value: 7}, false)
			if b.Is || b.Value != value || !slices.Equal(b.L, l[:n]) || code != api.NotAvailable || got != 0 {
				t.Error(value, n, b, code, got)
			}
		}
	}
}

// P13.2: who may wait is put behind all who do, whatever the priorities, and is answered Blocked and 0; all else is as it was.
func TestReadOfNothingByWhoMayWait(t *testing.T) {
	for _, there := range [][]int{nil, {4}, {5}, {6}, {4, 3, 2}, {8, 7, 6}, {3, 9, 4}, {5, 5}, {least}, {most}, {least, most}} {
		for _, prio := range []int{least, -1, 0, 5, most} {
			for _, value := range []int{0, 4, -4} {
				w := api.Wait{Proc: 2, Prio: prio, Value: 7}
				b, code, got := board.Read(api.Board{Value: value, L: waiting(there...)}, w, true)
				if b.Is || b.Value != value || !slices.Equal(b.L, append(waiting(there...), w)) || code != api.Blocked || got != 0 {
					t.Error(there, prio, b, code, got)
				}
			}
		}
	}
}

// P13.2: one who waits already is put there once more, as another one is.
func TestReadByOneWhoWaitsAlready(t *testing.T) {
	w := api.Wait{Proc: 2, Prio: 3, Value: 7}
	b := api.Board{}
	for n := range 5 {
		var code int
		if b, code, _ = board.Read(b, w, true); code != api.Blocked || !slices.Equal(b.L, slices.Repeat([]api.Wait{w}, n+1)) {
			t.Error(n, b, code)
		}
	}
}

// P13.1, R3, R5: all boards, written with all telling values, and cleared.
func TestWriteAndClearByTheChapter(t *testing.T) {
	for _, b := range boards() {
		for _, value := range telling() {
			checkWrite(t, b, value)
		}
		checkClear(t, b)
	}
}

// P13.2, R3, R5: all boards, read by all readers who may wait, and who may not.
func TestReadByTheChapter(t *testing.T) {
	for _, b := range boards() {
		for _, w := range readers() {
			checkRead(t, b, w, true)
			checkRead(t, b, w, false)
		}
	}
}

// P13.1, P13.2: lists longer than a partition has processes.
func TestLongListsByTheChapter(t *testing.T) {
	for n := range 50 {
		l := make([]api.Wait, n)
		for i := range l {
			l[i] = api.Wait{Proc: i % 6, Prio: i * 7 % 16, Value: -i}
		}
		for _, b := range []api.Board{{L: l}, {Value: 4, L: l}, {Is: true, L: l}, {Is: true, Value: 4, L: l}} {
			checkWrite(t, b, n)
			checkClear(t, b)
			checkRead(t, b, api.Wait{Proc: 2, Prio: 5, Value: 7}, true)
			checkRead(t, b, api.Wait{Proc: 2, Prio: 5, Value: 7}, false)
		}
	}
}

// P13.3: all who wait are told what is written next, once, in the order in which they came, also if the board is cleared meanwhile.
func TestWhoWaitsIsToldWhatIsWrittenNext(t *testing.T) {
	for n := range 8 {
		b := board.Clear(api.Board{Is: true, Value: 3})
		var want []api.Wake
		for i := range n {
			var code int
			if b, code, _ = board.Read(b, api.Wait{Proc: 10 + i, Prio: i * 5 % 8, Value: 40 + i}, true); code != api.Blocked {
				t.Fatal(n, i, code)
			}
			if i%2 == 1 {
				b = board.Clear(b)
			}
			want = append(want, api.Wake{Proc: 10 + i, Code: api.NoError, Value: 90 + n})
		}
		b, wakes := board.Write(b, 90+n)
		if !slices.Equal(wakes, want) {
			t.Error(n, wakes)
		}
		if _, wakes = board.Write(b, 7); len(wakes) != 0 {
			t.Error(n, wakes)
		}
	}
}

// P13.3: what stands on a board is told to all who read it, till another thing is written, or it is wiped off.
func TestWhatStandsOnItIsToldToAll(t *testing.T) {
	b := api.Board{}
	for _, written := range telling() {
		b, _ = board.Write(b, written)
		for proc := range 10 {
			var code, value int
			if b, code, value = board.Read(b, api.Wait{Proc: proc, Prio: proc}, proc%2 == 0); code != api.NoError || value != written {
				t.Error(written, proc, code, value)
			}
		}
	}
	if _, code, value := board.Read(board.Clear(b), api.Wait{Proc: 1}, false); code != api.NotAvailable || value != 0 {
		t.Error(code, value)
	}
}

// P13.3: so it is whatever is done to a board, one deed after the other: each who waits is told once, and by the next Write.
func TestDeedAfterDeed(t *testing.T) {
	b, stands, value := api.Board{}, false, 0
	var wait []int
	told := 0
	x := 1
	for turn := range 4000 {
		x = (x*1103515245 + 12345) & (1<<31 - 1)
		switch deed := x >> 16 % 8; deed {
		case 0:
			var wakes []api.Wake
			b, wakes = board.Write(b, turn)
			stands, value = true, turn
			for i, w := range wakes {
				if i >= len(wait) || w != (api.Wake{Proc: wait[i], Code: api.NoError, Value: turn}) {
					t.Fatal(turn, wakes, wait)
				}
			}
			if len(wakes) != len(wait) {
				t.Fatal(turn, wakes, wait)
			}
			wait, told = nil, told+len(wakes)
		case 1, 2:
			b, stands, value = board.Clear(b), false, 0
		default:
			may := deed > 3
			next, code, got := board.Read(b, api.Wait{Proc: turn, Prio: x >> 20 % 16, Value: -turn}, may)
			want := api.NoError
			if !stands && may {
				want, wait = api.Blocked, append(wait, turn)
			} else if !stands {
				want = api.NotAvailable
			}
			if code != want || got != value {
				t.Fatal(turn, code, got)
			}
			b = next
		}
		if b.Is != stands || b.Value != value || len(b.L) != len(wait) {
			t.Fatal(turn, b)
		}
	}
	if told < 100 {
		t.Error(told)
	}
}

// R3: boards that came of one board are each their own: who waits for the one does not wait for the other.
func TestBoardsOfOneBoardAreApart(t *testing.T) {
	base, _, _ := board.Read(api.Board{}, api.Wait{Proc: 5}, true)
	base, _, _ = board.Read(base, api.Wait{Proc: 3}, true)
	one, _, _ := board.Read(base, api.Wait{Proc: 1}, true)
	other, _, _ := board.Read(base, api.Wait{Proc: 2}, true)
	wiped, refused := board.Clear(base), base
	refused, _, _ = board.Read(refused, api.Wait{Proc: 4}, false)
	wiped.L[0].Proc, refused.L[1].Proc = 8, 9
	for i, c := range []struct {
		b    api.Board
		want []int
	}{{base, []int{5, 3}}, {one, []int{5, 3, 1}}, {other, []int{5, 3, 2}}, {wiped, []int{8, 3}}, {refused, []int{5, 9}}} {
		var procs []int
		for _, w := range c.b.L {
			procs = append(procs, w.Proc)
		}
		if !slices.Equal(procs, c.want) {
			t.Error(i, procs)
		}
	}
}

// P1: very many who wait are done with soon.
func TestVeryManyEnd(t *testing.T) {
	const n = 1 << 20
	l := make([]api.Wait, n)
	for i := range l {
		l[i] = api.Wait{Proc: i, Prio: 2 * i, Value: -i}
	}
	b := api.Board{L: l}
	if c, wakes := board.Write(b, 5); len(c.L) != 0 || len(wakes) != n || wakes[n-1] != (api.Wake{Proc: n - 1, Value: 5}) {
		t.Error("write")
	}
	if c := board.Clear(b); !slices.Equal(c.L, l) {
		t.Error("clear")
	}
	w := api.Wait{Proc: 7, Prio: most, Value: 8}
	if c, code, _ := board.Read(b, w, true); code != api.Blocked || len(c.L) != n+1 || c.L[n] != w || !slices.Equal(c.L[:n], l) {
		t.Error("read")
	}
}
