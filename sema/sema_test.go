package sema_test

import (
	"math"
	"slices"
	"testing"

	"quarterdeck/api"
	"quarterdeck/sema"
)

const (
	least = math.MinInt
	most  = math.MaxInt
)

// telling are numbers around codes and 0, some that differ above 32 bits, and the least and the greatest.
func telling() []int {
	return []int{least, least + 1, -1 << 32, -2, -1, 0, 1, 2, api.Blocked, 1 << 32, 1<<32 + 1, most - 1, most}
}

// waiting are those who wait with some priorities; all other fields are set, and of each other ones.
func waiting(prios ...int) []api.Wait {
	var l []api.Wait
	for i, prio := range prios {
		l = append(l, api.Wait{Proc: 100 + i, Prio: prio, Value: 200 + i})
	}
	return l
}

// lists are of nobody, one and several who wait, in and out of the order of priorities, of the same process, and of the least and the greatest numbers.
func lists() [][]api.Wait {
	return [][]api.Wait{
		nil,
		{},
		{{}},
		waiting(5),
		waiting(9, 5, 1),
		waiting(1, 5, 9),
		waiting(5, 5, 5, 5),
		waiting(3, 9, -4, 9, 0, 15, 2),
		{{Proc: 4, Prio: 1, Value: 9}, {Proc: 4, Prio: 1, Value: 9}, {Proc: 4, Prio: 2, Value: 8}},
		{{Proc: -1, Prio: -2, Value: -3}, {Proc: least, Prio: most, Value: least}, {Proc: most, Prio: least, Value: most}},
	}
}

// semas are all of these lists with Counts and Mosts of telling numbers, ranked and not: also such as Get and Put never answer.
func semas() []api.Sema {
	var all []api.Sema
	for _, l := range lists() {
		for _, count := range telling() {
			for _, top := range []int{least, -1, 0, 1, 2, 5, 1 << 32, most} {
				all = append(all, api.Sema{Count: count, Most: top, L: l}, api.Sema{Count: count, Most: top, Ranked: true, L: l})
			}
		}
	}
	return all
}

// comers are some who come: of greater, the same and lesser priorities than those who wait, one who waits already, and of telling numbers.
func comers() []api.Wait {
	all := []api.Wait{{}, {Proc: 2, Prio: 15, Value: 7}, {Proc: 2, Prio: 5, Value: 7}, {Proc: 100, Prio: 5, Value: 200}, {Proc: 4, Prio: 1, Value: 9}}
	for _, number := range telling() {
		all = append(all, api.Wait{Proc: number, Prio: ^number, Value: number}, api.Wait{Proc: 3, Prio: number, Value: ^number})
	}
	return all
}

// answer is all that a call may answer.
type answer struct {
	s     api.Sema
	code  int
	wakes []api.Wake
}

// alike holds semaphores against each other; a list without elements may be nil or empty.
func alike(s, o api.Sema) bool {
	return s.Count == o.Count && s.Most == o.Most && s.Ranked == o.Ranked && slices.Equal(s.L, o.L)
}

func (a answer) same(o answer) bool {
	return alike(a.s, o.s) && a.code == o.code && slices.Equal(a.wakes, o.wakes)
}

// own is a semaphore with a list of its own, with no room behind its end.
func own(s api.Sema) api.Sema {
	s.L = slices.Clip(slices.Clone(s.L))
	return s
}

// added is a list with one more, by the words of waiters' chapter.
func added(l []api.Wait, w api.Wait, ranked bool) []api.Wait {
	place := len(l)
	for i := len(l) - 1; ranked && i >= 0; i-- {
		if l[i].Prio < w.Prio {
			place = i
		}
	}
	return slices.Insert(slices.Clone(l), place, w)
}

// got and given go by the chapter's words.
func got(s api.Sema, w api.Wait, may bool) answer {
	s = own(s)
	if s.Count > 0 {
		s.Count = s.Count - 1
		return answer{s: s}
	}
	if !may {
		return answer{s: s, code: 2}
	}
	s.L = added(s.L, w, s.Ranked)
	return answer{s: s, code: 6}
}

func given(s api.Sema) answer {
	s = own(s)
	if len(s.L) > 0 {
		first := s.L[0]
		s.L = s.L[1:]
		return answer{s: s, wakes: []api.Wake{{Proc: first.Proc, Code: 0, Value: 0}}}
	}
	if s.Count < s.Most {
		s.Count = s.Count + 1
		return answer{s: s}
	}
	return answer{s: s, code: 1}
}

// spoil writes over an answer's lists, and over the room behind their ends.
func spoil(a answer) {
	spoilSema(a.s)
	for i := range a.wakes[:cap(a.wakes)] {
		a.wakes[:cap(a.wakes)][i] = api.Wake{Proc: -77, Code: -78, Value: -79}
	}
}

func spoilSema(s api.Sema) {
	for i := range s.L[:cap(s.L)] {
		s.L[:cap(s.L)][i] = api.Wait{Proc: -77, Prio: -78, Value: -79}
	}
}

// asHandedIn are a semaphore with no room behind its list's end, and one with room in which others of the caller's lie.
func asHandedIn(s api.Sema) []api.Sema {
	roomy := s
	roomy.L = slices.Concat(s.L, []api.Wait{{Proc: 90, Prio: 91, Value: 92}, {Proc: 93, Prio: least, Value: 95}, {Proc: 96}})[:len(s.L)]
	return []api.Sema{own(s), roomy}
}

// whole is a semaphore with all that lies in its list and behind its end.
func whole(s api.Sema) api.Sema {
	s.L = s.L[:cap(s.L)]
	return s
}

// check holds an answer against what is wanted, and what is handed in and answered against the rules R3 and R5.
func check(t *testing.T, what string, s api.Sema, want answer, do func(api.Sema) answer) {
	t.Helper()
	for _, in := range asHandedIn(s) {
		was := own(whole(in))
		stays := func() bool { return alike(whole(in), was) }
		out := do(in)
		if !out.same(want) {
			t.Fatalf("%s, of %v: %v, not %v", what, s, out, want)
		}
		if !stays() {
			t.Fatalf("%s, of %v: what was handed in is another one", what, s)
		}
		again := do(in)
		spoil(out)
		if !stays() {
			t.Fatalf("%s, of %v: what was handed in hangs on the answer", what, s)
		}
		if !again.same(want) || !do(in).same(want) {
			t.Fatalf("%s, of %v: another answer", what, s)
		}
		spoilSema(in)
		if !again.same(want) {
			t.Fatalf("%s, of %v: the answer hangs on what was handed in", what, s)
		}
	}
}

func get(s api.Sema, w api.Wait, may bool) answer {
	s, code := sema.Get(s, w, may)
	return answer{s: s, code: code}
}

func put(s api.Sema) answer {
	s, code, wakes := sema.Put(s)
	return answer{s: s, code: code, wakes: wakes}
}

func checkGet(t *testing.T, s api.Sema, w api.Wait) {
	t.Helper()
	check(t, "Get that may not wait", s, got(s, w, false), func(s api.Sema) answer { return get(s, w, false) })
	check(t, "Get that may wait", s, got(s, w, true), func(s api.Sema) answer { return get(s, w, true) })
}

func checkPut(t *testing.T, s api.Sema) {
	t.Helper()
	check(t, "Put", s, given(s), put)
}

// P15.1, P15.2: the chapter's example: Count 1: Get: NoError; Get blocks; Put: who waited goes on, Count 0.
func TestExample(t *testing.T) {
	s := api.Sema{Count: 1, Most: 1}
	s, code := sema.Get(s, api.Wait{Proc: 1, Prio: 2, Value: 5}, true)
	if !alike(s, api.Sema{Most: 1}) || code != 0 {
		t.Error(s, code)
	}
	second := api.Wait{Proc: 3, Prio: 4, Value: 6}
	s, code = sema.Get(s, second, true)
	if !alike(s, api.Sema{Most: 1, L: []api.Wait{second}}) || code != 6 {
		t.Error(s, code)
	}
	s, code, wakes := sema.Put(s)
	if !alike(s, api.Sema{Most: 1}) || code != 0 || !slices.Equal(wakes, []api.Wake{{Proc: 3}}) {
		t.Error(s, code, wakes)
	}
}

// P15.1: where there is one, it is taken, whether who comes may wait or not, and whoever waits all the same waits on.
func TestGetWhereThereIsOne(t *testing.T) {
	for _, l := range lists() {
		for _, count := range []int{1, 2, 3, api.MaxDepth, 1 << 32, most - 1, most} {
			for _, top := range []int{least, -1, 0, 1, 2, count, most} {
				for _, ranked := range []bool{false, true} {
					for _, may := range []bool{false, true} {
						s := api.Sema{Count: count, Most: top, Ranked: ranked, L: l}
						want := api.Sema{Count: count - 1, Most: top, Ranked: ranked, L: l}
						if c, code := sema.Get(s, api.Wait{Proc: 2, Prio: 9, Value: 5}, may); !alike(c, want) || code != api.NoError {
							t.Error(s, may, c, code)
						}
					}
				}
			}
		}
	}
}

// P15.1: where there is none, also with a Count below 0, who may not wait is answered NotAvailable, and the semaphore is as it was.
func TestGetOfNoneByWhoMayNotWait(t *testing.T) {
	for _, s := range semas() {
		if s.Count > 0 {
			continue
		}
		if c, code := sema.Get(s, api.Wait{Proc: 2, Prio: 9, Value: 5}, false); !alike(c, s) || code != api.NotAvailable {
			t.Fatal(s, c, code)
		}
	}
}

// P15.1: where there is none, who may wait is put behind all, or, if the semaphore is ranked, ahead of those of lesser priorities; Blocked.
func TestGetOfNoneByWhoMayWait(t *testing.T) {
	for _, s := range semas() {
		if s.Count > 0 {
			continue
		}
		for _, w := range comers() {
			want := s
			want.L = added(s.L, w, s.Ranked)
			if c, code := sema.Get(s, w, true); !alike(c, want) || code != api.Blocked {
				t.Fatal(s, w, c, code)
			}
		}
	}
}

// P15.1: where who comes is put: ranked, ahead of lesser priorities and behind the same ones; else behind all.
func TestWhereOneIsPut(t *testing.T) {
	l := []api.Wait{{Proc: 1, Prio: 9, Value: 11}, {Proc: 2, Prio: 5, Value: 12}, {Proc: 3, Prio: 5, Value: 13}, {Proc: 4, Prio: 1, Value: 14}}
	for _, c := range []struct {
		prio   int
		ranked bool
		place  int
	}{
		{10, true, 0}, {9, true, 1}, {6, true, 1}, {5, true, 3}, {2, true, 3}, {1, true, 4}, {0, true, 4}, {most, true, 0}, {least, true, 4},
		{10, false, 4}, {5, false, 4}, {0, false, 4}, {most, false, 4}, {least, false, 4},
	} {
		w := api.Wait{Proc: 8, Prio: c.prio, Value: 18}
		want := slices.Insert(slices.Clone(l), c.place, w)
		if s, _ := sema.Get(api.Sema{Most: 1, Ranked: c.ranked, L: l}, w, true); !slices.Equal(s.L, want) {
			t.Error(c, s.L)
		}
	}
}

// P15.1: one who waits already is put there once more, as another one is.
func TestOneWhoWaitsAlready(t *testing.T) {
	w := api.Wait{Proc: 2, Prio: 3, Value: 7}
	for _, ranked := range []bool{false, true} {
		s := api.Sema{Most: 1, Ranked: ranked}
		for n := range 5 {
			s, _ = sema.Get(s, w, true)
			if !slices.Equal(s.L, slices.Repeat([]api.Wait{w}, n+1)) {
				t.Error(n, s)
			}
		}
	}
}

// P15.2: the first one who waits goes on with NoError and 0, and waits no more, whatever Count and Most are: they stay.
func TestPutWhereSomebodyWaits(t *testing.T) {
	for _, s := range semas() {
		if len(s.L) == 0 {
			continue
		}
		want := s
		want.L = s.L[1:]
		c, code, wakes := sema.Put(s)
		if !alike(c, want) || code != api.NoError || !slices.Equal(wakes, []api.Wake{{Proc: s.L[0].Proc, Code: api.NoError, Value: 0}}) {
			t.Fatal(s, c, code, wakes)
		}
	}
}

// P15.2: where nobody waits and Count is below Most, it is one more, also where it is below 0.
func TestPutWhereThereIsRoom(t *testing.T) {
	for _, c := range []struct{ count, top, want int }{
		{0, 1, 1}, {0, 2, 1}, {1, 2, 2}, {6, 8, 7}, {7, 8, 8}, {0, most, 1}, {most - 1, most, most}, {1 << 32, 1<<32 + 1, 1<<32 + 1},
		{2, 1 << 32, 3}, {-1, 0, 0}, {-1, 1, 0}, {-5, 3, -4}, {-5, -4, -4}, {least, least + 1, least + 1}, {least, 0, least + 1}, {least, most, least + 1},
	} {
		for _, ranked := range []bool{false, true} {
			for _, l := range [][]api.Wait{nil, {}} {
				s := api.Sema{Count: c.count, Most: c.top, Ranked: ranked, L: l}
				want := api.Sema{Count: c.want, Most: c.top, Ranked: ranked}
				if got, code, wakes := sema.Put(s); !alike(got, want) || code != api.NoError || len(wakes) != 0 {
					t.Error(s, got, code, wakes)
				}
			}
		}
	}
}

// P15.2: where nobody waits and Count is not below Most, what is given is NoAction, and the semaphore is as it was.
func TestPutWhereThereIsNoRoom(t *testing.T) {
	for _, c := range []struct{ count, top int }{
		{1, 1}, {2, 1}, {8, 8}, {9, 8}, {0, 0}, {1, 0}, {0, -1}, {-1, -1}, {-1, -2}, {3, -3}, {most, most}, {most, 0}, {most, most - 1},
		{least, least}, {0, least}, {most, least}, {1 << 32, 1}, {1<<32 + 1, 1 << 32},
	} {
		for _, ranked := range []bool{false, true} {
			for _, l := range [][]api.Wait{nil, {}} {
				s := api.Sema{Count: c.count, Most: c.top, Ranked: ranked, L: l}
				if got, code, wakes := sema.Put(s); !alike(got, s) || code != api.NoAction || len(wakes) != 0 {
					t.Error(s, got, code, wakes)
				}
			}
		}
	}
}

// P15.1, P15.2, R3, R5: all semaphores, taken from by some who may wait and who may not, and given to.
func TestAllSemaphoresByTheChapter(t *testing.T) {
	few := []api.Wait{{}, {Proc: 2, Prio: 5, Value: 7}, {Proc: least, Prio: most, Value: least}}
	for _, s := range semas() {
		checkPut(t, s)
		for _, w := range few {
			checkGet(t, s, w)
		}
	}
}

// P15.1, R3, R5: some semaphores, with one and with none, by all who come.
func TestAllComersByTheChapter(t *testing.T) {
	for _, l := range lists() {
		for _, count := range []int{-1, 0, 1} {
			for _, w := range comers() {
				checkGet(t, api.Sema{Count: count, Most: 1, L: l}, w)
				checkGet(t, api.Sema{Count: count, Most: 1, Ranked: true, L: l}, w)
			}
		}
	}
}

// P15.1, P15.2: all Counts from below 0 to above Most, for all Mosts that may be configured, and more.
func TestAllCountsByTheChapter(t *testing.T) {
	for top := -2; top <= 20; top++ {
		for count := -3; count <= top+3; count++ {
			for _, l := range [][]api.Wait{nil, waiting(5), waiting(9, 5, 1)} {
				checkPut(t, api.Sema{Count: count, Most: top, L: l})
				checkGet(t, api.Sema{Count: count, Most: top, Ranked: true, L: l}, api.Wait{Proc: 2, Prio: 6, Value: 7})
			}
		}
	}
}

// P15.1, P15.2: lists longer than a partition has processes.
func TestLongListsByTheChapter(t *testing.T) {
	for n := range 40 {
		l := make([]api.Wait, n)
		for i := range l {
			l[i] = api.Wait{Proc: i % 6, Prio: i * 7 % 16, Value: -i}
		}
		for _, count := range []int{-1, 0, 1, n} {
			for _, ranked := range []bool{false, true} {
				s := api.Sema{Count: count, Most: n, Ranked: ranked, L: l}
				checkPut(t, s)
				checkGet(t, s, api.Wait{Proc: 2, Prio: 5, Value: 7})
			}
		}
	}
}

// P15.3: what is there is taken so often and no more, and what is given then can be taken so often and no more.
func TestNoMoreAreTakenThanThereAre(t *testing.T) {
	for count := range 20 {
		for puts := range 20 {
			s := api.Sema{Count: count, Most: count + puts}
			s = takeAll(t, s, count)
			for range puts {
				s, _, _ = sema.Put(s)
			}
			s = takeAll(t, s, puts)
			if s.Count != 0 || len(s.L) != 0 {
				t.Error(count, puts, s)
			}
		}
	}
}

// takeAll takes till there are none, which must be so many.
func takeAll(t *testing.T, s api.Sema, n int) api.Sema {
	t.Helper()
	for taken := 0; ; taken++ {
		var code int
		s, code = sema.Get(s, api.Wait{Proc: taken}, false)
		if code == api.NoError && taken < n {
			continue
		}
		if code != api.NotAvailable || taken != n {
			t.Fatal(s, code, taken, n)
		}
		return s
	}
}

// P15.2, P15.3: those who wait go on one by one, in the order of coming, or of rank; none of them is forgotten, and Count stays.
func TestWhoWaitsIsGivenOneByOne(t *testing.T) {
	prios := []int{3, 9, 5, 9, 1, 5}
	for ranked, want := range map[bool][]int{false: {0, 1, 2, 3, 4, 5}, true: {1, 3, 2, 5, 0, 4}} {
		s := api.Sema{Most: 1, Ranked: ranked}
		for proc, prio := range prios {
			s, _ = sema.Get(s, api.Wait{Proc: proc, Prio: prio, Value: 9}, true)
		}
		for _, proc := range want {
			var wakes []api.Wake
			s, _, wakes = sema.Put(s)
			if !slices.Equal(wakes, []api.Wake{{Proc: proc}}) || s.Count != 0 {
				t.Error(ranked, proc, wakes, s)
			}
		}
		if s, code, wakes := sema.Put(s); s.Count != 1 || len(s.L) != 0 || code != api.NoError || len(wakes) != 0 {
			t.Error(ranked, s, code, wakes)
		}
	}
}

// traffic is a run of takes and gifts: how many there were by codes and wakes alone, and who waits.
type traffic struct {
	s                     api.Sema
	taken, gifts          int
	blocked, denied, over int
	waits                 map[int]bool
}

func (r *traffic) get(w api.Wait, may bool) {
	s, code := sema.Get(r.s, w, may)
	r.s = s
	switch code {
	case api.NoError:
		r.taken++
	case api.Blocked:
		r.waits[w.Proc] = true
		r.blocked++
	case api.NotAvailable:
		r.denied++
	}
}

func (r *traffic) put() {
	s, code, wakes := sema.Put(r.s)
	r.s = s
	if code == api.NoAction {
		r.over++
		return
	}
	r.gifts++
	for _, wake := range wakes {
		if r.waits[wake.Proc] {
			delete(r.waits, wake.Proc)
			r.taken++
		}
	}
}

// fits tells whether what is there is what was there at first and was given and not taken, and whether nobody waits for what is there.
func (r *traffic) fits(first int) bool {
	if r.s.Count != first+r.gifts-r.taken || r.s.Count < 0 || r.s.Count > r.s.Most {
		return false
	}
	return len(r.s.L) == len(r.waits) && (r.s.Count == 0 || len(r.waits) == 0)
}

// P15.3: so it is whatever is done, one deed after the other, from any Count on.
func TestDeedAfterDeed(t *testing.T) {
	for top := 1; top <= 9; top++ {
		for first := range top + 1 {
			deeds(t, api.Sema{Count: first, Most: top})
			deeds(t, api.Sema{Count: first, Most: top, Ranked: true})
		}
	}
}

// deeds does many takes and gifts, each by a process of its own.
func deeds(t *testing.T, s api.Sema) {
	t.Helper()
	r, first, x := &traffic{s: s, waits: map[int]bool{}}, s.Count, s.Count+10*s.Most
	for turn := range 2000 {
		x = (x*1103515245 + 12345) & (1<<31 - 1)
		// Now more is taken than given, now less, so that some wait, and some is given in vain.
		if x>>16%8 < 3+turn/100%2*2 {
			r.get(api.Wait{Proc: turn, Prio: x >> 20 % 16, Value: turn}, x>>12%3 > 0)
		} else {
			r.put()
		}
		if !r.fits(first) || r.taken > first+r.gifts {
			t.Fatal(s, turn, r)
		}
	}
	if r.blocked < 20 || r.denied < 20 || r.over < 20 {
		t.Error(s, r.blocked, r.denied, r.over)
	}
}

// R3: semaphores that came of one semaphore are each their own: what is done to the one is not done to the other.
func TestSemaphoresOfOneSemaphoreAreApart(t *testing.T) {
	base := api.Sema{Most: 2}
	for i := range 5 {
		base, _ = sema.Get(base, api.Wait{Proc: i}, true)
	}
	one, _ := sema.Get(base, api.Wait{Proc: 10}, true)
	other, _ := sema.Get(base, api.Wait{Proc: 11}, true)
	same, _ := sema.Get(base, api.Wait{Proc: 12}, false)
	less, _, _ := sema.Put(base)
	more, _ := sema.Get(less, api.Wait{Proc: 13}, true)
	less.L[0].Proc, same.L[0].Proc = 14, 15
	for i, c := range []struct {
		s    api.Sema
		want []int
	}{{base, []int{0, 1, 2, 3, 4}}, {one, []int{0, 1, 2, 3, 4, 10}}, {other, []int{0, 1, 2, 3, 4, 11}}, {same, []int{15, 1, 2, 3, 4}}, {less, []int{14, 2, 3, 4}}, {more, []int{1, 2, 3, 4, 13}}} {
		var procs []int
		for _, w := range c.s.L {
			procs = append(procs, w.Proc)
		}
		if !slices.Equal(procs, c.want) {
			t.Error(i, procs)
		}
	}
}

// P1: very many who wait are done with soon.
func TestVeryManyEnd(t *testing.T) {
	const n = 1 << 20
	l := make([]api.Wait, n)
	for i := range l {
		l[i] = api.Wait{Proc: i, Prio: 2 * i, Value: -i}
	}
	w := api.Wait{Proc: 7, Prio: most, Value: 8}
	for _, ranked := range []bool{false, true} {
		s := api.Sema{Most: 1, Ranked: ranked, L: l}
		place := n
		if ranked {
			place = 0
		}
		if c, code := sema.Get(s, w, true); code != api.Blocked || len(c.L) != n+1 || c.L[place] != w {
			t.Error(ranked, "get")
		}
		if c, code := sema.Get(s, w, false); code != api.NotAvailable || !slices.Equal(c.L, l) {
			t.Error(ranked, "get that may not wait")
		}
		if c, code, wakes := sema.Put(s); code != api.NoError || len(wakes) != 1 || !slices.Equal(c.L, l[1:]) {
			t.Error(ranked, "put")
		}
	}
}
