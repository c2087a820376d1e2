package event_test

import (
	"math"
	"slices"
	"testing"

	"quarterdeck/api"
	"quarterdeck/event"
)

const (
	least = math.MinInt
	most  = math.MaxInt
)

// telling are numbers around codes and 0, some that differ above 32 bits, and the least and the greatest.
func telling() []int {
	return []int{least, least + 1, -1 << 32, -2, -1, 0, 1, 2, api.Blocked, 1 << 32, 1<<32 + 1, most - 1, most}
}

// waiting are those who wait with some priorities; all other fields are set, and of each other ones.
func waiting(prios ...int) []api.Wait {
	var l []api.Wait
	for i, prio := range prios {
		l = append(l, api.Wait{Proc: 100 + i, Prio: prio, Value: 200 + i})
	}
	return l
}

// lists are of nobody, one and several who wait, in and out of the order of priorities, of the same process, and of the least and the greatest numbers.
func lists() [][]api.Wait {
	all := [][]api.Wait{
		nil,
		{},
		{{}},
		waiting(5),
		waiting(9, 5, 1),
		waiting(1, 5, 9),
		waiting(5, 5, 5, 5),
		waiting(3, 9, -4, 9, 0, 15, 2),
		{{Proc: 4, Prio: 1, Value: 9}, {Proc: 4, Prio: 1, Value: 9}, {Proc: 4, Prio: 2, Value: 8}},
		{{Proc: -1, Prio: -2, Value: -3}, {Proc: least, Prio: most, Value: least}, {Proc: most, Prio: least, Value: most}},
	}
	for _, number := range telling() {
		all = append(all, []api.Wait{{Proc: number, Prio: ^number, Value: number}}, []api.Wait{{Proc: 3, Prio: number, Value: ^number}, {Proc: number, Prio: 5, Value: 6}})
	}
	return all
}

// events are all of these lists, up and not: also such as Set never answers, up with some who wait all the same.
func events() []api.Event {
	var all []api.Event
	for _, l := range lists() {
		all = append(all, api.Event{Up: true, L: l}, api.Event{L: l})
	}
	return all
}

// comers are some who come: of greater, the same and lesser priorities than those who wait, one who waits already, and of telling numbers.
func comers() []api.Wait {
	all := []api.Wait{{}, {Proc: 2, Prio: 15, Value: 7}, {Proc: 2, Prio: 5, Value: 7}, {Proc: 100, Prio: 5, Value: 200}, {Proc: 4, Prio: 1, Value: 9}}
	for _, number := range telling() {
		all = append(all, api.Wait{Proc: number, Prio: ^number, Value: number}, api.Wait{Proc: 3, Prio: number, Value: ^number})
	}
	return all
}

// answer is all that a call may answer.
type answer struct {
	e     api.Event
	code  int
	wakes []api.Wake
}

// alike holds events against each other; a list without elements may be nil or empty.
func alike(e, o api.Event) bool {
	return e.Up == o.Up && slices.Equal(e.L, o.L)
}

func (a answer) same(o answer) bool {
	return alike(a.e, o.e) && a.code == o.code && slices.Equal(a.wakes, o.wakes)
}

// own is an event with a list of its own, with no room behind its end.
func own(e api.Event) api.Event {
	e.L = slices.Clip(slices.Clone(e.L))
	return e
}

// woken are wakes of all who wait, by the words of waiters' chapter.
func woken(l []api.Wait) []api.Wake {
	var wakes []api.Wake
	for _, w := range l {
		wakes = append(wakes, api.Wake{Proc: w.Proc, Code: 0, Value: 0})
	}
	return wakes
}

// raised, lowered and awaited go by the chapter's words.
func raised(e api.Event) answer {
	return answer{e: api.Event{Up: true}, wakes: woken(e.L)}
}

func lowered(e api.Event) answer {
	e = own(e)
	e.Up = false
	return answer{e: e}
}

func awaited(e api.Event, w api.Wait, may bool) answer {
	e = own(e)
	if e.Up {
		return answer{e: e, code: 0}
	}
	if !may {
		return answer{e: e, code: 2}
	}
	e.L = append(e.L, w)
	return answer{e: e, code: 6}
}

// spoil writes over an answer's lists, and over the room behind their ends.
func spoil(a answer) {
	spoilEvent(a.e)
	for i := range a.wakes[:cap(a.wakes)] {
		a.wakes[:cap(a.wakes)][i] = api.Wake{Proc: -77, Code: -78, Value: -79}
	}
}

func spoilEvent(e api.Event) {
	for i := range e.L[:cap(e.L)] {
		e.L[:cap(e.L)][i] = api.Wait{Proc: -77, Prio: -78, Value: -79}
	}
}

// asHandedIn are an event with no room behind its list's end, and one with room in which others of the caller's lie.
func asHandedIn(e api.Event) []api.Event {
	roomy := e
	roomy.L = slices.Concat(e.L, []api.Wait{{Proc: 90, Prio: 91, Value: 92}, {Proc: 93, Prio: least, Value: 95}, {Proc: 96}})[:len(e.L)]
	return []api.Event{own(e), roomy}
}

// whole is an event with all that lies in its list and behind its end.
func whole(e api.Event) api.Event {
	e.L = e.L[:cap(e.L)]
	return e
}

// check holds an answer against what is wanted, and what is handed in and answered against the rules R3 and R5.
func check(t *testing.T, what string, e api.Event, want answer, do func(api.Event) answer) {
	t.Helper()
	for _, in := range asHandedIn(e) {
		was := own(whole(in))
		stays := func() bool { return alike(whole(in), was) }
		out := do(in)
		if !out.same(want) {
			t.Fatalf("%s, of %v: %v, not %v", what, e, out, want)
		}
		if !stays() {
			t.Fatalf("%s, of %v: what was handed in is another one", what, e)
		}
		again := do(in)
		spoil(out)
		if !stays() {
			t.Fatalf("%s, of %v: what was handed in hangs on the answer", what, e)
		}
		if !again.same(want) || !do(in).same(want) {
			t.Fatalf("%s, of %v: another answer", what, e)
		}
		spoilEvent(in)
		if !again.same(want) {
			t.Fatalf("%s, of %v: the answer hangs on what was handed in", what, e)
		}
	}
}

func checkSet(t *testing.T, e api.Event) {
	t.Helper()
	check(t, "Set", e, raised(e), func(e api.Event) answer {
		e, wakes := event.Set(e)
		return answer{e: e, wakes: wakes}
	})
}

func checkReset(t *testing.T, e api.Event) {
	t.Helper()
	check(t, "Reset", e, lowered(e), func(e api.Event) answer { return answer{e: event.Reset(e)} })
}

func checkAwait(t *testing.T, e api.Event, w api.Wait) {
	t.Helper()
	await := func(may bool) func(api.Event) answer {
		return func(e api.Event) answer {
			e, code := event.Await(e, w, may)
			return answer{e: e, code: code}
		}
	}
	check(t, "Await that may not wait", e, awaited(e, w, false), await(false))
	check(t, "Await that may wait", e, awaited(e, w, true), await(true))
}

// P16.1, P16.2: the chapter's example: Await blocks; Set: who waits goes on; Await: NoError.
func TestExample(t *testing.T) {
	w := api.Wait{Proc: 3, Prio: 4, Value: 6}
	e, code := event.Await(api.Event{}, w, true)
	if !alike(e, api.Event{L: []api.Wait{w}}) || code != 6 {
		t.Error(e, code)
	}
	e, wakes := event.Set(e)
	if !alike(e, api.Event{Up: true}) || !slices.Equal(wakes, []api.Wake{{Proc: 3, Code: 0, Value: 0}}) {
		t.Error(e, wakes)
	}
	if e, code = event.Await(e, w, true); !alike(e, api.Event{Up: true}) || code != 0 {
		t.Error(e, code)
	}
}

// P16.1: an event that is set is up, nobody waits any more, and all who did go on, in their order, with NoError and 0.
func TestSet(t *testing.T) {
	two := []api.Wait{{Proc: 8, Prio: 1, Value: 70}, {Proc: 3, Prio: 9, Value: 71}}
	for _, c := range []struct {
		what  string
		e     api.Event
		wakes []api.Wake
	}{
		{"noughts", api.Event{}, nil},
		{"down, an empty list", api.Event{L: []api.Wait{}}, nil},
		{"up", api.Event{Up: true}, nil},
		{"up, an empty list", api.Event{Up: true, L: []api.Wait{}}, nil},
		{"one who waits", api.Event{L: two[:1]}, []api.Wake{{Proc: 8}}},
		{"two who wait, as they came", api.Event{L: two}, []api.Wake{{Proc: 8}, {Proc: 3}}},
		{"up, though one waits", api.Event{Up: true, L: two[1:]}, []api.Wake{{Proc: 3}}},
		{"up, though two wait", api.Event{Up: true, L: two}, []api.Wake{{Proc: 8}, {Proc: 3}}},
		{"one who waits twice", api.Event{L: []api.Wait{two[0], two[0]}}, []api.Wake{{Proc: 8}, {Proc: 8}}},
		{"one of noughts who waits", api.Event{L: []api.Wait{{}}}, []api.Wake{{}}},
	} {
		e, wakes := event.Set(c.e)
		if !e.Up || len(e.L) != 0 || !slices.Equal(wakes, c.wakes) {
			t.Error(c.what, e, wakes)
		}
	}
}

// P16.1: a second Set right after wakes nobody, and leaves the event up.
func TestSetTwice(t *testing.T) {
	for _, e := range events() {
		once, _ := event.Set(e)
		twice, wakes := event.Set(once)
		if !twice.Up || len(twice.L) != 0 || len(wakes) != 0 {
			t.Error(e, twice, wakes)
		}
	}
}

// P16.1: an event that is reset is down, whatever it was, and who waits still does, in their order, with all that they have.
func TestReset(t *testing.T) {
	two := []api.Wait{{Proc: 8, Prio: 1, Value: 70}, {Proc: 3, Prio: 9, Value: 71}}
	for _, c := range []struct {
		what string
		e    api.Event
		l    []api.Wait
	}{
		{"noughts", api.Event{}, nil},
		{"down, an empty list", api.Event{L: []api.Wait{}}, nil},
		{"up", api.Event{Up: true}, nil},
		{"up, an empty list", api.Event{Up: true, L: []api.Wait{}}, nil},
		{"one who waits", api.Event{L: two[1:]}, two[1:]},
		{"two who wait", api.Event{L: two}, two},
		{"up, though one waits", api.Event{Up: true, L: two[:1]}, two[:1]},
		{"up, though two wait", api.Event{Up: true, L: two}, two},
		{"one who waits twice", api.Event{L: []api.Wait{two[0], two[0]}}, []api.Wait{two[0], two[0]}},
	} {
		e := event.Reset(c.e)
		if e.Up || !slices.Equal(e.L, c.l) {
			t.Error(c.what, e)
		}
		if again := event.Reset(e); again.Up || !slices.Equal(again.L, c.l) {
			t.Error(c.what, "again", again)
		}
	}
}

// P16.2: an event that is up is answered as it was, with NoError, whether who comes may wait or not, and whoever waits all the same waits on.
func TestAwaitOfOneThatIsUp(t *testing.T) {
	for _, l := range lists() {
		for _, w := range comers() {
			for _, may := range []bool{false, true} {
				if e, code := event.Await(api.Event{Up: true, L: l}, w, may); !e.Up || !slices.Equal(e.L, l) || code != api.NoError {
					t.Error(l, w, may, e, code)
				}
			}
		}
	}
}

// P16.2: who may not wait for an event that is down is answered NotAvailable, and it is as it was.
func TestAwaitOfOneThatIsDownByWhoMayNotWait(t *testing.T) {
	for _, l := range lists() {
		for _, w := range comers() {
			if e, code := event.Await(api.Event{L: l}, w, false); e.Up || !slices.Equal(e.L, l) || code != api.NotAvailable {
				t.Error(l, w, e, code)
			}
		}
	}
}

// P16.2: who may wait for an event that is down is put behind all who do, whatever the priorities, and is answered Blocked.
func TestAwaitOfOneThatIsDownByWhoMayWait(t *testing.T) {
	for _, there := range [][]int{nil, {4}, {5}, {6}, {4, 3, 2}, {8, 7, 6}, {3, 9, 4}, {5, 5}, {least}, {most}, {least, most}} {
		for _, prio := range []int{least, -1, 0, 5, api.MaxPrio, most} {
			for _, value := range []int{0, 4, -4, most} {
				w := api.Wait{Proc: 2, Prio: prio, Value: value}
				e, code := event.Await(api.Event{L: waiting(there...)}, w, true)
				if e.Up || !slices.Equal(e.L, append(waiting(there...), w)) || code != api.Blocked {
					t.Error(there, prio, value, e, code)
				}
			}
		}
	}
}

// P16.2: one who waits already is put there once more, as another one is.
func TestOneWhoWaitsAlready(t *testing.T) {
	w := api.Wait{Proc: 2, Prio: 3, Value: 7}
	e := api.Event{}
	for n := range 5 {
		var code int
		if e, code = event.Await(e, w, true); code != api.Blocked || !slices.Equal(e.L, slices.Repeat([]api.Wait{w}, n+1)) {
			t.Error(n, e, code)
		}
	}
	if _, wakes := event.Set(e); !slices.Equal(wakes, slices.Repeat([]api.Wake{{Proc: 2}}, 5)) {
		t.Error(wakes)
	}
}

// P16.1, P16.2, R3, R5: all events, set, reset, and asked for by all who come, may they wait or not.
func TestAllEventsByTheChapter(t *testing.T) {
	for _, e := range events() {
		checkSet(t, e)
		checkReset(t, e)
		for _, w := range comers() {
			checkAwait(t, e, w)
		}
	}
}

// P16.1, P16.2: lists longer than a partition has processes.
func TestLongListsByTheChapter(t *testing.T) {
	for n := range 50 {
		l := make([]api.Wait, n)
		for i := range l {
			l[i] = api.Wait{Proc: i % 6, Prio: i * 7 % 16, Value: -i}
		}
		for _, e := range []api.Event{{L: l}, {Up: true, L: l}} {
			checkSet(t, e)
			checkReset(t, e)
			checkAwait(t, e, api.Wait{Proc: 2, Prio: 5, Value: 7})
		}
	}
}

// P16.3: all who wait go on at the next Set, once, in the order in which they came, also if the event is reset meanwhile.
func TestWhoWaitsGoesOnAtTheNextSet(t *testing.T) {
	for n := range 8 {
		e := event.Reset(api.Event{Up: true})
		var want []api.Wake
		for i := range n {
			var code int
			if e, code = event.Await(e, api.Wait{Proc: 10 + i, Prio: i * 5 % 8, Value: 40 + i}, true); code != api.Blocked {
				t.Fatal(n, i, code)
			}
			if i%2 == 1 {
				e = event.Reset(e)
			}
			want = append(want, api.Wake{Proc: 10 + i, Code: api.NoError, Value: 0})
		}
		e, wakes := event.Set(e)
		if !slices.Equal(wakes, want) || len(e.L) != 0 {
			t.Error(n, wakes, e)
		}
		if e, wakes = event.Set(event.Reset(e)); len(wakes) != 0 || len(e.L) != 0 {
			t.Error(n, wakes, e)
		}
	}
}

// P16.3: an event stays up for all who ask, and nobody is put there, till it is reset.
func TestItStaysUpTillItIsReset(t *testing.T) {
	e, _ := event.Set(api.Event{})
	for proc := range 20 {
		var code int
		if e, code = event.Await(e, api.Wait{Proc: proc, Prio: proc}, proc%2 == 0); code != api.NoError || !alike(e, api.Event{Up: true}) {
			t.Error(proc, e, code)
		}
	}
	if _, code := event.Await(event.Reset(e), api.Wait{Proc: 1}, false); code != api.NotAvailable {
		t.Error(code)
	}
}

// run is a run of these calls, told by what was done alone: whether the event is up, and which processes wait for it.
type run struct {
	e     api.Event
	up    bool
	waits []int
	// These are how often each came about, so that a run in which nothing does is seen.
	goneOn, blocked, denied, at int
}

// set tells whether just those go on who were answered Blocked, in their order.
func (r *run) set() bool {
	var wakes []api.Wake
	r.e, wakes = event.Set(r.e)
	var want []api.Wake
	for _, proc := range r.waits {
		want = append(want, api.Wake{Proc: proc, Code: api.NoError})
	}
	r.up, r.waits, r.goneOn = true, nil, r.goneOn+len(wakes)
	return slices.Equal(wakes, want)
}

func (r *run) reset() bool {
	r.e, r.up = event.Reset(r.e), false
	return true
}

// await tells whether the code is the one that is wanted.
func (r *run) await(w api.Wait, may bool) bool {
	var code int
	r.e, code = event.Await(r.e, w, may)
	switch {
	case r.up:
		r.at++
		return code == api.NoError
	case !may:
		r.denied++
		return code == api.NotAvailable
	}
	r.blocked++
	r.waits = append(r.waits, w.Proc)
	return code == api.Blocked
}

// fits tells whether the event is what was done to it, and whether nobody waits while it is up.
func (r *run) fits() bool {
	if r.e.Up != r.up || len(r.e.L) != len(r.waits) || r.e.Up && len(r.e.L) != 0 {
		return false
	}
	for i, w := range r.e.L {
		if w.Proc != r.waits[i] {
			return false
		}
	}
	return true
}

// P16.3: so it is whatever is done, one deed after the other, from an event that is up or down and for which nobody waits.
func TestDeedAfterDeed(t *testing.T) {
	for seed := range 20 {
		up := seed%2 == 0
		r, x := &run{e: api.Event{Up: up}, up: up}, seed+1
		for turn := range 4000 {
			x = (x*1103515245 + 12345) & (1<<31 - 1)
			fine := true
			switch deed := x >> 16 % 16; deed {
			case 0, 1:
				fine = r.set()
			case 2, 3, 4:
				fine = r.reset()
			default:
				fine = r.await(api.Wait{Proc: turn, Prio: x >> 20 % 16, Value: -turn}, deed > 8)
			}
			if !fine || !r.fits() {
				t.Fatal(seed, turn, r)
			}
		}
		if r.goneOn < 100 || r.blocked < r.goneOn || r.denied < 100 || r.at < 100 {
			t.Error(seed, r.goneOn, r.blocked, r.denied, r.at)
		}
	}
}

// R3: events that came of one event are each their own: who waits for the one does not wait for the other.
func TestEventsOfOneEventAreApart(t *testing.T) {
	base, _ := event.Await(api.Event{}, api.Wait{Proc: 5}, true)
	base, _ = event.Await(base, api.Wait{Proc: 3}, true)
	base, _ = event.Await(base, api.Wait{Proc: 7}, true)
	one, _ := event.Await(base, api.Wait{Proc: 1}, true)
	other, _ := event.Await(base, api.Wait{Proc: 2}, true)
	down := event.Reset(base)
	refused, _ := event.Await(base, api.Wait{Proc: 4}, false)
	high := api.Event{Up: true, L: base.L}
	there, _ := event.Await(high, api.Wait{Proc: 4}, true)
	down.L[0].Proc, refused.L[1].Proc, there.L[2].Proc = 8, 9, 6
	for i, c := range []struct {
		e    api.Event
		want []int
	}{{base, []int{5, 3, 7}}, {one, []int{5, 3, 7, 1}}, {other, []int{5, 3, 7, 2}}, {down, []int{8, 3, 7}}, {refused, []int{5, 9, 7}}, {high, []int{5, 3, 7}}, {there, []int{5, 3, 6}}} {
		var procs []int
		for _, w := range c.e.L {
			procs = append(procs, w.Proc)
		}
		if !slices.Equal(procs, c.want) {
			t.Error(i, procs)
		}
	}
}

// P1: very many who wait are done with soon.
func TestVeryManyEnd(t *testing.T) {
	const n = 1 << 20
	l := make([]api.Wait, n)
	for i := range l {
		l[i] = api.Wait{Proc: i, Prio: 2 * i, Value: -i}
	}
	e, w := api.Event{L: l}, api.Wait{Proc: 7, Prio: most, Value: 8}
	if c, wakes := event.Set(e); !c.Up || len(c.L) != 0 || len(wakes) != n || wakes[n-1] != (api.Wake{Proc: n - 1}) {
		t.Error("set")
	}
	if c := event.Reset(api.Event{Up: true, L: l}); c.Up || !slices.Equal(c.L, l) {
		t.Error("reset")
	}
	if c, code := event.Await(e, w, true); code != api.Blocked || len(c.L) != n+1 || c.L[n] != w || !slices.Equal(c.L[:n], l) {
		t.Error("await")
	}
	if c, code := event.Await(e, w, false); code != api.NotAvailable || !slices.Equal(c.L, l) {
		t.Error("await that may not wait")
	}
}
