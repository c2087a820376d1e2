package waiters_test

import (
	"math"
	"slices"
	"testing"

	"quarterdeck/api"
	"quarterdeck/waiters"
)

const (
	least = math.MinInt
	most  = math.MaxInt
)

// telling are numbers around those that may be, some that differ above 32 bits, and the least and the greatest.
func telling() []int {
	return []int{least, least + 1, -1 << 32, -2, -1, 0, 1, 2, api.MaxPrio, api.MaxPrio + 1, 1 << 32, 1<<32 + 1, most - 1, most}
}

// listed are those who wait with some priorities; process and value are no place of the list, no priority, and of each other ones.
func listed(prios ...int) []api.Wait {
	var l []api.Wait
	for i, prio := range prios {
		l = append(l, api.Wait{Proc: 100 + i, Prio: prio, Value: 200 + i})
	}
	return l
}

// of are waits of some processes, in priorities that tell nothing of them.
func of(procs ...int) []api.Wait {
	var l []api.Wait
	for i, proc := range procs {
		l = append(l, api.Wait{Proc: proc, Prio: 50 + i%3, Value: 60 + i})
	}
	return l
}

// comes is one who comes, with a priority.
func comes(prio int) api.Wait { return api.Wait{Proc: 7, Prio: prio, Value: 8} }

// prios are the priorities of a list.
func prios(l []api.Wait) []int {
	var all []int
	for _, w := range l {
		all = append(all, w.Prio)
	}
	return all
}

// added goes by the chapter's words: one after the other is gone by till there is one of a lesser priority.
func added(l []api.Wait, w api.Wait, ranked bool) []api.Wait {
	var ahead []api.Wait
	behind := l
	for len(behind) > 0 && !(ranked && behind[0].Prio < w.Prio) {
		ahead, behind = append(ahead, behind[0]), behind[1:]
	}
	return append(append(ahead, w), behind...)
}

// woken goes by the chapter's words.
func woken(l []api.Wait, code, value int) []api.Wake {
	var all []api.Wake
	for _, w := range l {
		all = append(all, api.Wake{Proc: w.Proc, Code: code, Value: value})
	}
	return all
}

// has goes by the chapter's words.
func has(l []api.Wait, proc int) bool {
	count := 0
	for _, w := range l {
		if w.Proc == proc {
			count++
		}
	}
	return count > 0
}

// spoilWaits and spoilWakes write over a list, and over the room behind its end.
func spoilWaits(l []api.Wait) {
	for i := range l[:cap(l)] {
		l[:cap(l)][i] = api.Wait{Proc: -77, Prio: -78, Value: -79}
	}
}

func spoilWakes(l []api.Wake) {
	for i := range l[:cap(l)] {
		l[:cap(l)][i] = api.Wake{Proc: -77, Code: -78, Value: -79}
	}
}

// asHandedIn are a list with no room behind its end, and one with room in which others of the caller's lie.
func asHandedIn(l []api.Wait) [][]api.Wait {
	behind := []api.Wait{{Proc: 90, Prio: 91, Value: 92}, {Proc: 93, Prio: 94, Value: 95}, {Proc: 96, Prio: least, Value: 97}}
	return [][]api.Wait{slices.Clip(slices.Clone(l)), slices.Concat(l, behind)[:len(l)]}
}

// check holds a list that is answered against what is wanted, and what is handed in and answered against the rules R3 and R5.
func check[T comparable](t *testing.T, what string, l []api.Wait, want []T, do func(l []api.Wait) []T, spoil func([]T)) {
	t.Helper()
	for _, given := range asHandedIn(l) {
		was := slices.Clone(given[:cap(given)])
		stays := func() bool { return slices.Equal(given[:cap(given)], was) }
		got := do(given)
		if !slices.Equal(got, want) {
			t.Fatalf("%s, of %v: %v, not %v", what, l, got, want)
		}
		if !stays() {
			t.Fatalf("%s, of %v: what was handed in is another one", what, l)
		}
		again := do(given)
		spoil(got)
		if !stays() {
			t.Fatalf("%s, of %v: what was handed in hangs on the answer", what, l)
		}
		if !slices.Equal(again, want) || !slices.Equal(do(given), want) {
			t.Fatalf("%s, of %v: another answer", what, l)
		}
		spoilWaits(given)
		if !slices.Equal(again, want) {
			t.Fatalf("%s, of %v: the answer hangs on what was handed in", what, l)
		}
	}
}

func checkAdd(t *testing.T, l []api.Wait, w api.Wait, ranked bool) {
	t.Helper()
	what := "Add in the order of coming"
	if ranked {
		what = "Add by rank"
	}
	add := func(l []api.Wait) []api.Wait { return waiters.Add(l, w, ranked) }
	check(t, what, l, added(l, w, ranked), add, spoilWaits)
}

func checkFirst(t *testing.T, l []api.Wait) {
	t.Helper()
	var want []api.Wait
	if len(l) > 0 {
		want = l[1:]
	}
	first := func(given []api.Wait) []api.Wait {
		w, rest, is := waiters.First(given)
		if is != (len(l) > 0) {
			t.Fatalf("First of %v: %v", l, is)
		}
		if !is && w != (api.Wait{}) || is && w != l[0] {
			t.Fatalf("First of %v: %v", l, w)
		}
		return rest
	}
	check(t, "First", l, want, first, spoilWaits)
}

func checkAll(t *testing.T, l []api.Wait, code, value int) {
	t.Helper()
	all := func(l []api.Wait) []api.Wake { return waiters.All(l, code, value) }
	check(t, "All", l, woken(l, code, value), all, spoilWakes)
}

func checkHas(t *testing.T, l []api.Wait, proc int) {
	t.Helper()
	for _, given := range asHandedIn(l) {
		was := slices.Clone(given[:cap(given)])
		for range 2 {
			if got := waiters.Has(given, proc); got != has(l, proc) {
				t.Fatalf("Has %d, of %v: %v", proc, l, got)
			}
		}
		if !slices.Equal(given[:cap(given)], was) {
			t.Fatalf("Has, of %v: what was handed in is another one", l)
		}
	}
}

// lists are all of up to so many who wait, with some numbers; one's place tells its value.
func lists(longest int, kinds []int, one func(kind int) api.Wait, do func(l []api.Wait)) {
	var l []api.Wait
	var more func()
	more = func() {
		do(slices.Clone(l))
		if len(l) == longest {
			return
		}
		for _, kind := range kinds {
			w := one(kind)
			w.Value = 200 + len(l)
			l = append(l, w)
			more()
			l = l[:len(l)-1]
		}
	}
	more()
}

// many are so many who wait, in no order that a short rule would tell.
func many(n, kinds int) []api.Wait {
	l := make([]api.Wait, n)
	x := 1
	for i := range l {
		x = (x*1103515245 + 12345) & (1<<31 - 1)
		l[i] = api.Wait{Proc: x >> 8 % kinds, Prio: x>>16%kinds - kinds/2, Value: i}
	}
	return l
}

// P12.1: the chapter's example: priorities 1, 3, 2, ranked: 3, 2, 1; and in the order of coming as they came.
func TestExample(t *testing.T) {
	var ranked, came []api.Wait
	for _, w := range listed(1, 3, 2) {
		ranked = waiters.Add(ranked, w, true)
		came = waiters.Add(came, w, false)
	}
	if !slices.Equal(prios(ranked), []int{3, 2, 1}) || !slices.Equal(prios(came), []int{1, 3, 2}) {
		t.Error(ranked, came)
	}
	want := []api.Wait{{Proc: 101, Prio: 3, Value: 201}, {Proc: 102, Prio: 2, Value: 202}, {Proc: 100, Prio: 1, Value: 200}}
	if !slices.Equal(ranked, want) || !slices.Equal(came, listed(1, 3, 2)) {
		t.Error(ranked, came)
	}
}

// P12.1: where one who comes is put, by rank.
func TestAddByRank(t *testing.T) {
	for _, c := range []struct {
		what  string
		there []int
		prio  int
		place int
	}{
		{"nobody", nil, 5, 0},
		{"one of less", []int{4}, 5, 0},
		{"one of the same", []int{5}, 5, 1},
		{"one of more", []int{6}, 5, 1},
		{"ahead of all", []int{4, 3, 2}, 5, 0},
		{"behind all", []int{8, 7, 6}, 5, 3},
		{"between", []int{7, 6, 4, 3}, 5, 2},
		{"behind those of the same", []int{7, 5, 5, 4, 3}, 5, 3},
		{"all of the same", []int{5, 5, 5, 5}, 5, 4},
		{"not in order: ahead of the first one of less", []int{3, 9, 4, 9}, 5, 0},
		{"not in order: more, less, more, less", []int{9, 4, 8, 3}, 5, 1},
		{"not in order: the same, less, the same", []int{5, 4, 5}, 5, 1},
		{"not in order: rising, of more", []int{6, 7, 8}, 5, 3},
		{"not in order: rising, less last", []int{6, 7, 8, 1}, 5, 3},
		{"below 0", []int{-1, -2, -4}, -3, 2},
		{"0 between the signs", []int{1, -1}, 0, 1},
		{"the greatest, ahead of the least", []int{least}, most, 0},
		{"the least, behind the greatest", []int{most}, least, 1},
		{"the least, behind the least", []int{least, least}, least, 2},
		{"the greatest, behind the greatest", []int{most, most, most - 1}, most, 2},
		{"one more than the least", []int{0, least}, least + 1, 1},
		{"differing above 32 bits", []int{1 << 40, 1<<32 + 1, 1}, 1 << 32, 2},
	} {
		w := comes(c.prio)
		got := waiters.Add(listed(c.there...), w, true)
		if want := slices.Insert(listed(c.there...), c.place, w); !slices.Equal(got, want) {
			t.Errorf("%s: %v, not %v", c.what, got, want)
		}
	}
}

// P12.1: in the order of coming, one is put behind all, whatever the priorities.
func TestAddInTheOrderOfComing(t *testing.T) {
	for _, there := range [][]int{nil, {4}, {5}, {6}, {4, 3, 2}, {8, 7, 6}, {3, 9, 4}, {5, 5}, {least, most}, {least, least}} {
		for _, prio := range []int{least, -1, 0, 5, most} {
			w := comes(prio)
			if got := waiters.Add(listed(there...), w, false); !slices.Equal(got, append(listed(there...), w)) {
				t.Error(there, prio, got)
			}
		}
	}
}

// P12.1: only Prio tells where one is put, not who they are, nor what they bring; all that is kept, also of who waits already.
func TestOnlyPrioTellsThePlace(t *testing.T) {
	for _, proc := range telling() {
		for _, value := range telling() {
			there := []api.Wait{{Proc: 3, Prio: 4, Value: value}, {Proc: proc, Prio: 2, Value: 5}, {Proc: 3, Prio: 4, Value: value}}
			for _, ranked := range []bool{false, true} {
				checkAdd(t, there, api.Wait{Proc: proc, Prio: 3, Value: value}, ranked)
				checkAdd(t, there, api.Wait{Proc: value, Prio: 4, Value: proc}, ranked)
				checkAdd(t, there, there[1], ranked)
			}
		}
	}
}

// P12.1: all lists of up to five who wait, in order and not, of priorities less, the same and greater.
func TestSmallListsByTheChapter(t *testing.T) {
	one := func(prio int) api.Wait { return api.Wait{Proc: prio & 1, Prio: prio} }
	lists(5, []int{-1, 0, 1, 2}, one, func(l []api.Wait) {
		for prio := -2; prio <= 3; prio++ {
			checkAdd(t, l, comes(prio), true)
			checkAdd(t, l, comes(prio), false)
		}
		checkFirst(t, l)
		checkAll(t, l, api.TimedOut, 17)
		for proc := -1; proc <= 2; proc++ {
			checkHas(t, l, proc)
		}
	})
}

// P12.1, R1: any two who wait, and one who comes, of telling numbers.
func TestTellingNumbersByTheChapter(t *testing.T) {
	one := func(number int) api.Wait { return api.Wait{Proc: number, Prio: number} }
	lists(2, telling(), one, func(l []api.Wait) {
		for _, number := range telling() {
			checkAdd(t, l, comes(number), true)
			checkAdd(t, l, comes(number), false)
			checkHas(t, l, number)
			checkAll(t, l, number, ^number)
		}
		checkFirst(t, l)
	})
}

// P12.1: lists longer than a partition has processes, with much that is the same.
func TestLongListsByTheChapter(t *testing.T) {
	for n := range 50 {
		for _, kinds := range []int{1, 2, 5, 1000} {
			l := many(n, kinds)
			for _, prio := range []int{-kinds, -1, 0, 1, kinds} {
				checkAdd(t, l, comes(prio), true)
				checkAdd(t, l, comes(prio), false)
			}
			checkFirst(t, l)
			checkAll(t, l, n, kinds)
			for proc := -1; proc < 7; proc++ {
				checkHas(t, l, proc)
			}
		}
	}
}

// P12.1: the first one, with all that it has, the others in their order, and true.
func TestFirst(t *testing.T) {
	for _, c := range [][]api.Wait{
		{{Proc: 1, Prio: 2, Value: 3}},
		{{}},
		{{}, {}},
		{{Proc: least, Prio: most, Value: -1}, {Proc: 4}},
		{{Proc: 1, Prio: 2, Value: 3}, {Proc: 1, Prio: 2, Value: 3}, {Proc: 1, Prio: 2, Value: 4}},
		listed(1, 9, 3, 9, -4),
	} {
		w, rest, is := waiters.First(c)
		if w != c[0] || !slices.Equal(rest, c[1:]) || !is {
			t.Error(c, w, rest, is)
		}
		checkFirst(t, c)
	}
}

// P12.1: of an empty list, nil or not, with room behind its end or not: noughts, nothing and false.
func TestFirstOfNobody(t *testing.T) {
	for _, l := range [][]api.Wait{nil, {}, listed(1, 2)[:0], listed(1, 2)[2:]} {
		if w, rest, is := waiters.First(l); w != (api.Wait{}) || len(rest) != 0 || is {
			t.Error(w, rest, is)
		}
	}
}

// P12.1: who waits not at all, once, more than once; the room behind the end of a list is not the list.
func TestHas(t *testing.T) {
	for _, c := range []struct {
		what string
		l    []api.Wait
		proc int
		want bool
	}{
		{"nil", nil, 0, false},
		{"empty", []api.Wait{}, 0, false},
		{"noughts", []api.Wait{{}}, 0, true},
		{"one of another", of(4), 0, false},
		{"alone", of(4), 4, true},
		{"first", of(4, 5, 6), 4, true},
		{"between", of(4, 5, 6), 5, true},
		{"last", of(4, 5, 6), 6, true},
		{"not at all", of(4, 5, 6), 7, false},
		{"more than once", of(4, 5, 4), 4, true},
		{"each time", of(4, 4, 4), 4, true},
		{"a priority", of(4, 5, 6), 50, false},
		{"a value", of(4, 5, 6), 61, false},
		{"a place", of(4, 5, 6), 1, false},
		{"behind the end", of(4, 5, 6)[:2], 6, false},
		{"behind the end of an empty list", of(4)[:0], 4, false},
		{"ahead of the list", of(4, 5, 6)[1:], 4, false},
		{"below 0", of(0, -1), -1, true},
		{"the other sign", of(1), -1, false},
		{"the least", of(4, least), least, true},
		{"the greatest", of(most, 4), most, true},
		{"the same in the low bits", of(1<<32 + 4), 4, false},
	} {
		if got := waiters.Has(c.l, c.proc); got != c.want {
			t.Error(c.what, got)
		}
	}
}

// P12.1: a wake of each, in order, with the process's own number, and that code and value, whatever the wait's own.
func TestAll(t *testing.T) {
	l := []api.Wait{{Proc: 4, Prio: 1, Value: 9}, {Proc: -5, Prio: 8, Value: 0}, {Proc: 4, Prio: 1, Value: 9}, {Proc: most, Prio: -3, Value: least}}
	want := []api.Wake{{Proc: 4, Code: 5, Value: 6}, {Proc: -5, Code: 5, Value: 6}, {Proc: 4, Code: 5, Value: 6}, {Proc: most, Code: 5, Value: 6}}
	for n := range len(l) + 1 {
		if got := waiters.All(l[:n], 5, 6); !slices.Equal(got, want[:n]) {
			t.Error(n, got)
		}
	}
	for _, code := range telling() {
		for _, value := range telling() {
			checkAll(t, l, code, value)
		}
	}
}

// P12.1: nobody is woken, nobody waits, and one who comes is alone, of a list that is nil, and of an empty one.
func TestNobody(t *testing.T) {
	for _, l := range [][]api.Wait{nil, {}, listed(1, 2)[:0]} {
		if got := waiters.All(l, 5, 6); len(got) != 0 {
			t.Error(got)
		}
		for _, ranked := range []bool{false, true} {
			w := api.Wait{Proc: 1, Prio: -2, Value: 3}
			if got := waiters.Add(l, w, ranked); !slices.Equal(got, []api.Wait{w}) {
				t.Error(got)
			}
			if got := waiters.Add(l, api.Wait{}, ranked); !slices.Equal(got, []api.Wait{{}}) {
				t.Error(got)
			}
		}
		if waiters.Has(l, 0) {
			t.Error("has")
		}
	}
}

// inOrder tells whether the greatest priority is first, and of the same who came first: who came later has a greater Value.
func inOrder(l []api.Wait) bool {
	for i := 1; i < len(l); i++ {
		a, b := l[i-1], l[i]
		if a.Prio < b.Prio || a.Prio == b.Prio && a.Value >= b.Value {
			return false
		}
	}
	return true
}

// sameOnes tells whether two lists have the same ones, in any order.
func sameOnes(a, b []api.Wait) bool {
	count := map[api.Wait]int{}
	for _, w := range a {
		count[w]++
	}
	for _, w := range b {
		count[w]--
	}
	for _, n := range count {
		if n != 0 {
			return false
		}
	}
	return len(a) == len(b)
}

// P12.2: whoever comes, in whatever order, a ranked list stays in order, and nobody is lost; all go by it, one by one.
func TestRankedListsStayInOrder(t *testing.T) {
	one := func(prio int) api.Wait { return api.Wait{Proc: prio & 3, Prio: prio} }
	lists(6, []int{least, 0, 1, most}, one, func(came []api.Wait) {
		var l []api.Wait
		for i, w := range came {
			l = waiters.Add(l, w, true)
			if !inOrder(l) || !sameOnes(l, came[:i+1]) {
				t.Fatal(came, l)
			}
		}
		for n := range came {
			w, rest, is := waiters.First(l)
			if !is || !inOrder(rest) || !sameOnes(append(slices.Clone(rest), w), l) || len(rest) != len(came)-n-1 {
				t.Fatal(came, l)
			}
			l = rest
		}
		if _, _, is := waiters.First(l); is {
			t.Fatal(came, l)
		}
	})
}

// P12.2: so they do when some go while others come; in the order of coming they go as they came.
func TestSomeGoWhileOthersCome(t *testing.T) {
	var ranked, came, there []api.Wait
	next := 0
	for turn, w := range many(600, 5) {
		ranked, came, there = waiters.Add(ranked, w, true), waiters.Add(came, w, false), append(there, w)
		if turn%3 != 2 {
			continue
		}
		for range min(turn%7, len(ranked)) {
			best, rest, is := waiters.First(ranked)
			gone := slices.Index(there, best)
			if !is || gone < 0 {
				t.Fatal(turn, best)
			}
			ranked, there = rest, slices.Delete(there, gone, gone+1)
			first, others, _ := waiters.First(came)
			if first.Value != next {
				t.Fatal(turn, first)
			}
			came, next = others, next+1
		}
		if !inOrder(ranked) || !sameOnes(ranked, there) {
			t.Fatal(turn, ranked, there)
		}
	}
	if len(ranked) == 0 || len(came) != len(ranked) || next == 0 {
		t.Error(len(ranked), len(came), next)
	}
}

// P1: very many who wait, and one who comes at any place of them, are done with soon.
func TestVeryManyEnd(t *testing.T) {
	const n = 1 << 20
	l := make([]api.Wait, n)
	for i := range l {
		l[i] = api.Wait{Proc: i, Prio: 2 * (n - i), Value: -i}
	}
	for _, place := range []int{0, 1, n / 2, n - 1, n} {
		w := comes(2*(n-place) + 1)
		got := waiters.Add(l, w, true)
		if len(got) != n+1 || got[place] != w || !slices.Equal(got[:place], l[:place]) || !slices.Equal(got[place+1:], l[place:]) {
			t.Error("ranked", place)
		}
		if got = waiters.Add(l, w, false); len(got) != n+1 || got[n] != w || !slices.Equal(got[:n], l) {
			t.Error("coming", place)
		}
	}
	if _, rest, is := waiters.First(l); !is || !slices.Equal(rest, l[1:]) {
		t.Error("first")
	}
	if !waiters.Has(l, n-1) || waiters.Has(l, n) || len(waiters.All(l, 1, 2)) != n {
		t.Error("has, all")
	}
}

// R3: lists that came of one list are each their own: who is added to the one is not in the other.
func TestListsOfOneListAreApart(t *testing.T) {
	base := waiters.Add(waiters.Add(nil, comes(5), true), comes(3), true)
	for _, ranked := range []bool{false, true} {
		one, other := waiters.Add(base, comes(1), ranked), waiters.Add(base, comes(2), ranked)
		if !slices.Equal(prios(one), []int{5, 3, 1}) || !slices.Equal(prios(other), []int{5, 3, 2}) {
			t.Error(one, other)
		}
		_, rest, _ := waiters.First(one)
		_, again, _ := waiters.First(one)
		spoilWaits(again)
		if !slices.Equal(prios(append(rest, comes(9))), []int{3, 1, 9}) || !slices.Equal(prios(one), []int{5, 3, 1}) {
			t.Error(rest, one)
		}
	}
	if !slices.Equal(prios(base), []int{5, 3}) {
		t.Error(base)
	}
}
