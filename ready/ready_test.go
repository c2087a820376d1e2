package ready_test

import (
	"math"
	"slices"
	"testing"

	"quarterdeck/api"
	"quarterdeck/ready"
)

// proc is a process that could run.
func proc(prio, since int) api.Proc {
	return api.Proc{State: api.Ready, Prio: prio, Since: since}
}

// suspended is a process that could run but for that.
func suspended(p api.Proc) api.Proc {
	p.Suspended = true
	return p
}

// in is a process in a state.
func in(state int, p api.Proc) api.Proc {
	p.State = state
	return p
}

// example is the chapter's.
func example() []api.Proc { return []api.Proc{proc(1, 5), proc(2, 9), proc(2, 7)} }

// telling are numbers around those that may be, and the least and the greatest.
func telling() []int {
	return []int{math.MinInt, math.MinInt + 1, -1, 0, 1, 2, api.MaxPrio, api.MaxPrio + 1, math.MaxInt - 1, math.MaxInt}
}

// noModes are numbers that are none, some of which are a mode when they are cut to fewer bits, or wrap around.
func noModes() []int {
	return []int{math.MinInt, math.MinInt + 1, math.MinInt + 2, -2, -1, 3, 4, 1<<8 + 1, 1<<16 + 2, 1<<32 + 1, 1<<32 + 2, math.MaxInt - 1, math.MaxInt}
}

// modes are all of them, and numbers that are none.
func modes() []int { return append([]int{api.Idle, api.Cold, api.Normal}, noModes()...) }

// could goes by the chapter's words: whether a process of a list could run.
func could(l []api.Proc, i, mode int) bool {
	if mode != api.Normal && (mode != api.Cold || i > 0) {
		return false
	}
	return l[i].State == api.Ready && !l[i].Suspended
}

// ahead goes by the chapter's words: whether of two processes the one comes ahead of the other.
func ahead(l []api.Proc, one, other int) bool {
	a, b := l[one], l[other]
	if a.Prio != b.Prio {
		return a.Prio > b.Prio
	}
	if a.Since != b.Since {
		return a.Since < b.Since
	}
	return one < other
}

// order goes by the chapter's words: each has the place of how many come ahead of it.
func order(l []api.Proc, mode int) []int {
	placed := make([]int, len(l))
	many := 0
	for i := range l {
		if !could(l, i, mode) {
			continue
		}
		many++
		place := 0
		for other := range l {
			if could(l, other, mode) && ahead(l, other, i) {
				place++
			}
		}
		placed[place] = i
	}
	return placed[:many]
}

// check holds what the package tells of a list against the chapter's words, and against what follows from them.
func check(t *testing.T, l []api.Proc, mode int) {
	t.Helper()
	want := order(l, mode)
	got := ready.Order(l, mode)
	if !slices.Equal(got, want) {
		t.Fatalf("Order(%v, %d): %v, not %v", l, mode, got, want)
	}
	first := -1
	if len(want) > 0 {
		first = want[0]
	}
	picked := ready.Pick(l, mode)
	if picked != first {
		t.Fatalf("Pick(%v, %d): %d, not %d", l, mode, picked, first)
	}
	none := picked == -1
	if !none && !could(l, picked, mode) {
		t.Fatalf("Pick(%v, %d): %d could not run", l, mode, picked)
	}
	for i, p := range l {
		if could(l, i, mode) && (none || p.Prio > l[picked].Prio || p.Prio == l[picked].Prio && p.Since < l[picked].Since) {
			t.Fatalf("Pick(%v, %d): %d, though there is %d", l, mode, picked, i)
		}
	}
}

// lists are all of up to so many processes of some kinds.
func lists(most int, kinds []api.Proc, do func(l []api.Proc)) {
	var l []api.Proc
	var more func()
	more = func() {
		do(l)
		if len(l) == most {
			return
		}
		for _, k := range kinds {
			l = append(l, k)
			more()
			l = l[:len(l)-1]
		}
	}
	more()
}

// P9.1: the chapter's example, which is the third of the whole document's, too.
func TestExample(t *testing.T) {
	for mode, want := range map[int][]int{api.Idle: nil, api.Cold: {0}, api.Normal: {2, 1, 0}} {
		if got := ready.Order(example(), mode); !slices.Equal(got, want) {
			t.Error("order", mode, got)
		}
	}
	for mode, want := range map[int]int{api.Idle: -1, api.Cold: 0, api.Normal: 2} {
		if got := ready.Pick(example(), mode); got != want {
			t.Error("pick", mode, got)
		}
	}
}

// P9.1: what comes ahead of what: the greatest Prio, then the least Since, then the least number, also of numbers whose difference wraps around.
func TestWhatComesFirst(t *testing.T) {
	const least, most = math.MinInt, math.MaxInt
	for _, l := range []struct {
		what  string
		procs []api.Proc
		want  []int
	}{
		{"one", []api.Proc{proc(0, 0)}, []int{0}},
		{"rising priorities", []api.Proc{proc(0, 0), proc(1, 0), proc(2, 0), proc(15, 0)}, []int{3, 2, 1, 0}},
		{"falling priorities", []api.Proc{proc(15, 0), proc(2, 0), proc(1, 0), proc(0, 0)}, []int{0, 1, 2, 3}},
		{"one priority, rising since", []api.Proc{proc(4, 1), proc(4, 2), proc(4, 3)}, []int{0, 1, 2}},
		{"one priority, falling since", []api.Proc{proc(4, 3), proc(4, 2), proc(4, 1)}, []int{2, 1, 0}},
		{"one priority, one since", []api.Proc{proc(4, 3), proc(4, 3), proc(4, 3), proc(4, 3)}, []int{0, 1, 2, 3}},
		{"priority counts more than since", []api.Proc{proc(1, 0), proc(2, 100)}, []int{1, 0}},
		{"since counts more than the number", []api.Proc{proc(1, 9), proc(0, 3), proc(1, 8), proc(0, 2)}, []int{2, 0, 3, 1}},
		{"equal ones beside others", []api.Proc{proc(1, 4), proc(2, 4), proc(1, 4), proc(2, 4), proc(1, 3)}, []int{1, 3, 4, 0, 2}},
		{"priorities below 0", []api.Proc{proc(-2, 0), proc(-1, 0), proc(0, 0), proc(-3, 0)}, []int{2, 1, 0, 3}},
		{"since below 0", []api.Proc{proc(5, 0), proc(5, -1), proc(5, 1), proc(5, -2)}, []int{3, 1, 0, 2}},
		{"the ends of Prio", []api.Proc{proc(least, 0), proc(most, 0), proc(0, 0), proc(-1, 0), proc(1, 0)}, []int{1, 4, 2, 3, 0}},
		{"the ends of Since", []api.Proc{proc(3, most), proc(3, least), proc(3, 0), proc(3, -1), proc(3, 1)}, []int{1, 3, 2, 4, 0}},
		{"the ends of both", []api.Proc{proc(least, most), proc(most, most), proc(least, least), proc(most, least)}, []int{3, 1, 2, 0}},
		{"priorities that differ above 32 bits", []api.Proc{proc(1, 0), proc(1<<32, 0), proc(1<<40, 0)}, []int{2, 1, 0}},
	} {
		if got := ready.Order(l.procs, api.Normal); !slices.Equal(got, l.want) {
			t.Error(l.what, "order", got)
		}
		if got := ready.Pick(l.procs, api.Normal); got != l.want[0] {
			t.Error(l.what, "pick", got)
		}
	}
}

// P9.1: who could run: in each state, and in none, suspended and not.
func TestWhoCouldRun(t *testing.T) {
	for _, state := range []int{math.MinInt, -1, api.Dormant, api.Ready, api.Waiting, api.States, 4, 1<<8 + 1, 1<<32 + 1, math.MaxInt} {
		for _, mode := range []int{api.Cold, api.Normal} {
			first := -1
			var want []int
			if state == api.Ready {
				first, want = 0, []int{0}
			}
			one := []api.Proc{in(state, proc(3, 3))}
			if got := ready.Order(one, mode); !slices.Equal(got, want) {
				t.Error("order", state, mode, got)
			}
			if got := ready.Pick(one, mode); got != first {
				t.Error("pick", state, mode, got)
			}
			one[0].Suspended = true
			if len(ready.Order(one, mode)) != 0 || ready.Pick(one, mode) != -1 {
				t.Error("suspended", state, mode)
			}
		}
	}
}

// P9.1: those that could not run are passed over, wherever they stand and whatever their priority, and the others keep their numbers.
func TestOthersArePassedOver(t *testing.T) {
	for _, other := range []api.Proc{in(api.Waiting, proc(9, 0)), in(api.Dormant, proc(9, 0)), suspended(proc(9, 0)), in(api.Dormant, proc(-1, 0)), suspended(proc(1, 1))} {
		l := []api.Proc{other, proc(1, 5), other, proc(2, 9), proc(2, 7), other}
		if got := ready.Order(l, api.Normal); !slices.Equal(got, []int{4, 3, 1}) {
			t.Error(other, got)
		}
		if got := ready.Pick(l, api.Normal); got != 4 {
			t.Error(other, got)
		}
	}
}

// P9.1: the modes, and numbers that are none: only in Cold and Normal anybody could run.
func TestModes(t *testing.T) {
	l := []api.Proc{proc(0, 9), proc(15, 0)}
	if len(ready.Order(l, api.Idle)) != 0 || ready.Pick(l, api.Idle) != -1 {
		t.Error("idle")
	}
	if !slices.Equal(ready.Order(l, api.Cold), []int{0}) || ready.Pick(l, api.Cold) != 0 {
		t.Error("cold")
	}
	if !slices.Equal(ready.Order(l, api.Normal), []int{1, 0}) || ready.Pick(l, api.Normal) != 1 {
		t.Error("normal")
	}
	for _, mode := range noModes() {
		if len(ready.Order(l, mode)) != 0 || ready.Pick(l, mode) != -1 {
			t.Error(mode)
		}
	}
}

// P9.1: in Cold only the first one counts, whatever stands behind it.
func TestCold(t *testing.T) {
	behind := []api.Proc{proc(15, 0), proc(0, 0), proc(math.MaxInt, math.MinInt)}
	for _, f := range []struct {
		what  string
		first api.Proc
		runs  bool
	}{
		{"ready", proc(1, 5), true},
		{"ready, of the least priority", proc(math.MinInt, math.MaxInt), true},
		{"waiting", in(api.Waiting, proc(15, 0)), false},
		{"dormant", in(api.Dormant, proc(15, 0)), false},
		{"suspended", suspended(proc(15, 0)), false},
		{"waiting and suspended", suspended(in(api.Waiting, proc(15, 0))), false},
	} {
		for many := range len(behind) + 1 {
			l := append([]api.Proc{f.first}, behind[:many]...)
			want, first := []int{}, -1
			if f.runs {
				want, first = []int{0}, 0
			}
			if got := ready.Order(l, api.Cold); !slices.Equal(got, want) {
				t.Error(f.what, many, "order", got)
			}
			if got := ready.Pick(l, api.Cold); got != first {
				t.Error(f.what, many, "pick", got)
			}
		}
	}
}

// P9.1: nobody: a list that is nil, one that is empty, and some of which none could run.
func TestNobody(t *testing.T) {
	room := []api.Proc{proc(1, 1), proc(2, 2)}
	for _, l := range [][]api.Proc{
		nil, {}, room[:0], {{}}, {{}, {}, {}},
		{in(api.Waiting, proc(3, 0)), suspended(proc(15, 0)), in(api.Dormant, proc(0, 0))},
	} {
		for _, mode := range modes() {
			if got := ready.Order(l, mode); len(got) != 0 {
				t.Error("order", l, mode, got)
			}
			if got := ready.Pick(l, mode); got != -1 {
				t.Error("pick", l, mode, got)
			}
		}
	}
}

// P9.1, P9.2: all lists of up to five processes, in any order, of those that tell one rule from another.
func TestSmallListsByTheChapter(t *testing.T) {
	kinds := []api.Proc{
		proc(1, 0), proc(1, 1), proc(2, 0), proc(2, 1), proc(0, -1),
		suspended(proc(3, 0)), in(api.Waiting, proc(3, 0)), in(api.Dormant, proc(3, 0)),
	}
	lists(5, kinds, func(l []api.Proc) {
		for _, mode := range []int{-1, api.Idle, api.Cold, api.Normal, api.Modes} {
			check(t, l, mode)
		}
	})
}

// P9.1, P9.2, R1: any two processes of telling numbers, in any mode and none.
func TestTellingNumbersByTheChapter(t *testing.T) {
	var kinds []api.Proc
	for _, prio := range telling() {
		for _, since := range telling() {
			kinds = append(kinds, proc(prio, since), in(prio, proc(since, prio)))
		}
	}
	lists(2, kinds, func(l []api.Proc) {
		for _, mode := range []int{math.MinInt, api.Idle, api.Cold, api.Normal, math.MaxInt} {
			check(t, l, mode)
		}
	})
	for _, mode := range modes() {
		check(t, kinds, mode)
	}
}

// many are processes in no order that a short rule would tell, with priorities and times that come again.
func many(n, prios, sinces int) []api.Proc {
	l := make([]api.Proc, n)
	x := 1
	for i := range l {
		x = (x*1103515245 + 12345) & (1<<31 - 1)
		l[i] = proc(x>>8%prios, x>>16%sinces)
		if x>>12%7 == 0 {
			l[i].Suspended = true
		}
		if x>>20%5 == 0 {
			l[i].State = x >> 22 % 4
		}
	}
	return l
}

// P9.1, P9.2: lists longer than a partition may have, with much that is equal.
func TestLongListsByTheChapter(t *testing.T) {
	for n := range 70 {
		for _, kinds := range []int{1, 2, 5, 1000} {
			for _, mode := range modes() {
				check(t, many(n, kinds, kinds), mode)
			}
		}
	}
	for _, kinds := range []int{1, 3, 1 << 20} {
		check(t, many(2000, kinds, 3), api.Normal)
	}
}

// P1: very many processes, of each order in which they may stand, are done with soon.
func TestVeryManyEnd(t *testing.T) {
	const n = 1 << 17
	for what, of := range map[string]func(i int) api.Proc{
		"equal":   func(int) api.Proc { return proc(1, 1) },
		"rising":  func(i int) api.Proc { return proc(i, 0) },
		"falling": func(i int) api.Proc { return proc(-i, 0) },
		"turning": func(i int) api.Proc { return proc(min(i, n-i), -i) },
	} {
		l := make([]api.Proc, n)
		for i := range l {
			l[i] = of(i)
		}
		got := ready.Order(l, api.Normal)
		for place := 1; place < len(got); place++ {
			if !ahead(l, got[place-1], got[place]) {
				t.Fatal(what, place)
			}
		}
		if len(got) != n || ready.Pick(l, api.Normal) != got[0] {
			t.Error(what, len(got))
		}
	}
}

// P9.1: of a process only its state, whether it is suspended, its priority and since when it is ready count.
func TestNothingElseCounts(t *testing.T) {
	for _, other := range []api.Proc{
		{C: api.Core{PC: 7, R: [api.Registers]int{1, 2, 3, 4}}},
		{Until: -1, Kind: api.OnSema, Object: 3},
		{Due: -1, Next: -1},
		{Due: math.MinInt, Next: math.MaxInt, Until: math.MaxInt},
		{Pending: true, Code: api.TimedOut, Value: -9, Call: 25},
	} {
		for place := range 3 {
			l := example()
			p := &l[place]
			other.State, other.Prio, other.Since = p.State, p.Prio, p.Since
			*p = other
			if got := ready.Order(l, api.Normal); !slices.Equal(got, []int{2, 1, 0}) {
				t.Error(other, place, got)
			}
			if got := ready.Pick(l, api.Normal); got != 2 {
				t.Error(other, place, got)
			}
		}
	}
}

// R3: what is handed in stays as it was, also in the room behind the end of the list.
func TestArgumentsStay(t *testing.T) {
	for _, mode := range modes() {
		l := many(40, 3, 3)
		was := slices.Clone(l)
		for end := range len(l) + 1 {
			ready.Order(l[:end], mode)
			ready.Pick(l[:end], mode)
		}
		if !slices.Equal(l, was) {
			t.Error(mode)
		}
	}
}

// R3, R5: an answer is the caller's own, and what is asked again is answered again, whatever was asked between.
func TestAnswersAreTheCallers(t *testing.T) {
	l := example()
	kept := ready.Order(l, api.Normal)
	broken := ready.Order(l, api.Normal)
	for i := range broken {
		broken[i] = -7
	}
	_ = append(broken[:1], 99, 99)
	ready.Order(many(50, 2, 2), api.Cold)
	ready.Pick(nil, math.MinInt)
	if !slices.Equal(kept, []int{2, 1, 0}) || !slices.Equal(ready.Order(l, api.Normal), kept) || ready.Pick(l, api.Normal) != 2 {
		t.Error("another answer", kept)
	}
	l[0].Prio, l[1].State, l[2].Suspended = 99, api.Waiting, true
	if !slices.Equal(kept, []int{2, 1, 0}) {
		t.Error("hangs on the list", kept)
	}
	if !slices.Equal(ready.Order(l, api.Normal), []int{0}) || ready.Pick(l, api.Normal) != 0 {
		t.Error("kept from before")
	}
}
