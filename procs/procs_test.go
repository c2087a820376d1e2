package procs_test

import (
	"fmt"
	"math"
	"reflect"
	"slices"
	"strings"
	"testing"

	"quarterdeck/api"
	"quarterdeck/procs"
)

const (
	least = math.MinInt
	most  = math.MaxInt
)

// telling are numbers around those that may be, and the least and the greatest.
func telling() []int {
	return []int{least, least + 1, -2, -1, 0, 1, 2, 9, api.MaxPrio, api.MaxPrio + 1, 1<<8 + 1, 1<<32 + 1, most - 1, most}
}

// states are all of them, and numbers that are none, some of which are one when they are cut to fewer bits.
func states() []int {
	return []int{least, -1, api.Dormant, api.Ready, api.Waiting, api.States, 1 << 8, 1<<32 + 1, 1<<32 + 2, most}
}

// full is a process with no number of noughts, so that each that is left or lost is told.
func full(state, prio int) api.Proc {
	return api.Proc{
		State: state, Prio: prio, Suspended: true,
		C:     api.Core{PC: 31, R: [api.Registers]int{32, 33, 34, 35}},
		Since: 36, Until: 37, Kind: api.OnSema, Object: 38, Due: 39, Next: 40,
		Pending: true, Code: 41, Value: 42, Call: 43,
	}
}

// awake is one that is not suspended.
func awake(p api.Proc) api.Proc {
	p.Suspended = false
	return p
}

// room is a list with room behind its end, in which something of the caller's lies.
func room[T any](behind T, l ...T) []T {
	return append(l, behind)[:len(l)]
}

// waits are those of processes, each with another priority and value.
func waits(l ...int) []api.Wait {
	var all []api.Wait
	for place, i := range l {
		all = append(all, api.Wait{Proc: i, Prio: 50 + place, Value: 60 + place})
	}
	return room(api.Wait{Proc: 1, Prio: 99, Value: 99}, all...)
}

// Processes of a partition that has some of each kind.
const (
	rests   = iota // Dormant, with much that a dormant one has not
	runs           // Ready
	held           // Ready and suspended
	sleeps         // Waiting
	stuck          // Waiting and suspended
	strange        // in no state
	fresh          // Dormant, as New has it
	many           // how many there are
)

// with is a partition of processes, in which each list has elements and room, and for whose processes others, and they themselves, wait.
func with(next int, l ...api.Proc) api.Part {
	wait := api.Wait{Proc: runs, Prio: 99, Value: 99}
	return api.Part{
		Mode: api.Normal, Begun: 3, Next: next,
		Memory: room(99, 4, 5, 6),
		Procs:  room(full(api.Ready, 99), l...),
		Boards: room(api.Board{L: []api.Wait{wait}},
			api.Board{Is: true, Value: 7, L: waits(runs, sleeps, runs, stuck)},
			api.Board{Is: true, Value: 8},
			api.Board{Value: 9, L: waits(held)}),
		Buffers: room(api.Buffer{L: []api.Wait{wait}},
			api.Buffer{Depth: 2, Ranked: true, Values: room(99, 10, 11), L: waits(rests, sleeps, held, sleeps, runs)},
			api.Buffer{Depth: 1, Values: room(99, runs, sleeps), L: waits(strange, stuck)}),
		Semas: room(api.Sema{L: []api.Wait{wait}},
			api.Sema{Count: 1, Most: 2, Ranked: true, L: waits(sleeps, runs, rests)},
			api.Sema{Most: 4, L: waits(runs, fresh, runs, stuck, runs, -1)}),
		Events: room(api.Event{L: []api.Wait{wait}},
			api.Event{Up: true, L: waits(stuck, strange, many, 77)},
			api.Event{L: waits(most, runs, runs, held, least)}),
		Samples: room(api.Sample{Value: 99}, api.Sample{Is: true, Value: 12, At: 13}, api.Sample{Value: runs}),
		Queues: room(api.Queue{Values: []int{99}},
			api.Queue{Depth: 3, Values: room(99, 14, runs), Lost: 15}, api.Queue{Depth: 1, Lost: 16}),
		Latch: api.Latch{Depth: 4, Lines: room(99, 17, runs, 18), Dropped: 19},
		Given: room(99, 20, runs, 21),
	}
}

// rich has a process of each kind.
func rich() api.Part {
	return with(70,
		full(api.Dormant, 0), awake(full(api.Ready, 1)), full(api.Ready, 2), awake(full(api.Waiting, 3)),
		full(api.Waiting, 4), awake(full(api.States, 5)), api.Proc{Prio: 6, Until: -1, Due: -1, Next: -1},
	)
}

// only has one process.
func only(one api.Proc) api.Part { return with(70, one) }

// bare has nothing but processes.
func bare(l ...api.Proc) api.Part { return api.Part{Procs: l} }

// configured are as many processes, each with another priority and entry, and no period and no limit.
func configured(n int) api.PartConf {
	c := api.PartConf{Words: 5, Boards: 2}
	for i := range n {
		c.Procs = append(c.Procs, api.ProcConf{Prio: 80 + i, Entry: 90 + i, Auto: i%2 == 0})
	}
	return c
}

// conf has one process.
func conf(one api.ProcConf) api.PartConf { return api.PartConf{Procs: []api.ProcConf{one}} }

// leave goes by the chapter's words: no object has a wait of that one, and the others keep their order.
func leave(p *api.Part, i int) {
	keep := func(l []api.Wait) []api.Wait {
		var kept []api.Wait
		for _, w := range l {
			if w.Proc != i {
				kept = append(kept, w)
			}
		}
		return kept
	}
	for k := range p.Boards {
		p.Boards[k].L = keep(p.Boards[k].L)
	}
	for k := range p.Buffers {
		p.Buffers[k].L = keep(p.Buffers[k].L)
	}
	for k := range p.Semas {
		p.Semas[k].L = keep(p.Semas[k].L)
	}
	for k := range p.Events {
		p.Events[k].L = keep(p.Events[k].L)
	}
}

// queue goes by the chapter's words.
func queue(p *api.Part, i int) {
	p.Procs[i].Since = p.Next
	p.Next++
}

// text is all of a thing; of a list nil and empty are told as the same.
func text(x any) string { return fmt.Sprintf("%+v", x) }

// lists goes through all lists in a thing, also those in the room behind the end of one.
func lists(x reflect.Value, do func(list reflect.Value)) {
	switch x.Kind() {
	case reflect.Struct:
		for k := range x.NumField() {
			lists(x.Field(k), do)
		}
	case reflect.Slice:
		whole := x.Slice(0, x.Cap())
		do(whole)
		for k := range whole.Len() {
			lists(whole.Index(k), do)
		}
	}
}

// memory is all that lies in the lists of a thing, with the room behind their ends.
func memory(x any) string {
	var b strings.Builder
	lists(reflect.ValueOf(x), func(list reflect.Value) { fmt.Fprintf(&b, "%+v;", list) })
	return b.String()
}

// spoil changes each number in the lists of a thing, also behind their ends.
func spoil(x any) {
	lists(reflect.ValueOf(x), func(list reflect.Value) {
		for k := range list.Len() {
			spoilOne(list.Index(k))
		}
	})
}

func spoilOne(x reflect.Value) {
	switch x.Kind() {
	case reflect.Int:
		x.SetInt(^x.Int())
	case reflect.Bool:
		x.SetBool(!x.Bool())
	case reflect.Struct:
		for k := range x.NumField() {
			spoilOne(x.Field(k))
		}
	case reflect.Array:
		for k := range x.Len() {
			spoilOne(x.Index(k))
		}
	}
}

// place is where a list lies.
type place struct{ from, to uintptr }

// places are where the lists of a thing lie.
func places(x any) []place {
	var l []place
	lists(reflect.ValueOf(x), func(list reflect.Value) {
		if list.Len() > 0 {
			from := list.Pointer()
			l = append(l, place{from, from + uintptr(list.Len())*list.Type().Elem().Size()})
		}
	})
	return l
}

// shared tells whether any two of some places lie over each other.
func shared(l []place) bool {
	l = slices.SortedFunc(slices.Values(l), func(a, b place) int { return int(int64(a.from) - int64(b.from)) })
	for k := 1; k < len(l); k++ {
		if l[k].from < l[k-1].to {
			return true
		}
	}
	return false
}

// deed is something that is done to a process.
type deed func(p api.Part) (api.Part, int)

// told is a deed that has no code.
func told(do func(p api.Part) api.Part) deed {
	return func(p api.Part) (api.Part, int) { return do(p), api.NoError }
}

// check holds what is answered against what is wanted, and what is handed in and answered against the rules R3 and R5.
func check(t *testing.T, what string, p, want api.Part, code int, do deed) {
	t.Helper()
	was, wasMemory := text(p), memory(p)
	got, gotCode := do(p)
	if text(got) != text(want) || gotCode != code {
		t.Fatalf("%s:\n%+v\n%d, not\n%+v\n%d", what, got, gotCode, want, code)
	}
	if text(p) != was || memory(p) != wasMemory {
		t.Fatalf("%s: what was handed in is another one", what)
	}
	if again, againCode := do(p); text(again) != text(want) || againCode != code {
		t.Fatalf("%s: another answer", what)
	}
	if shared(append(places(p), places(got)...)) {
		t.Fatalf("%s: lists are shared", what)
	}
	spoil(got)
	if text(p) != was || memory(p) != wasMemory {
		t.Fatalf("%s: what was handed in hangs on the answer", what)
	}
	got, _ = do(p)
	spoil(p)
	if text(got) != text(want) {
		t.Fatalf("%s: the answer hangs on what was handed in", what)
	}
}

// change is what is wanted of a partition: what an edit makes of it.
func change(p api.Part, edit func(p *api.Part)) api.Part {
	edit(&p)
	return p
}

// P10.2: the chapter's example.
func TestExample(t *testing.T) {
	c := configured(1)
	p := bare(procs.New(c)...)
	for k, want := range []struct {
		start       bool
		code, state int
	}{
		{true, api.NoError, api.Ready}, {true, api.NoAction, api.Ready},
		{false, api.NoError, api.Dormant}, {false, api.NoAction, api.Dormant},
		{true, api.NoError, api.Ready},
	} {
		code := 0
		if want.start {
			p, code = procs.Start(c, p, 0, 10)
		} else {
			p, code = procs.Stop(p, 0)
		}
		if code != want.code || p.Procs[0].State != want.state {
			t.Error(k, code, p.Procs[0])
		}
	}
}

// P10.1: New: each process is dormant, with its priority, whatever else is configured.
func TestNew(t *testing.T) {
	for _, prio := range telling() {
		for _, number := range telling() {
			got := procs.New(conf(api.ProcConf{Prio: prio, Period: number, Limit: number, Entry: number, Auto: true}))
			if !slices.Equal(got, []api.Proc{{Prio: prio, Until: -1, Due: -1, Next: -1}}) {
				t.Error(prio, number, got)
			}
		}
	}
	for n := range 20 {
		c := configured(n)
		was := text(c)
		got := procs.New(c)
		if len(got) != n || text(c) != was {
			t.Fatal(n, got)
		}
		for i, one := range got {
			if one != (api.Proc{Prio: 80 + i, Until: -1, Due: -1, Next: -1}) {
				t.Error(n, i, one)
			}
		}
	}
}

// P10.1: New: nothing is configured.
func TestNewOfNothing(t *testing.T) {
	for _, c := range []api.PartConf{{}, {Procs: []api.ProcConf{}}, {Words: most, Boards: least, Events: -1}} {
		if got := procs.New(c); len(got) != 0 {
			t.Error(c, got)
		}
	}
}

// P10.1, R3: New: an answer is the caller's own.
func TestNewIsTheCallers(t *testing.T) {
	c := configured(3)
	one, other := procs.New(c), procs.New(c)
	was := text(other)
	spoil(one)
	spoil(c)
	if text(other) != was {
		t.Error(other)
	}
}

// P10.1, R3: Own: it is the same, and none of its lists is anybody else's.
func TestOwn(t *testing.T) {
	own := told(procs.Own)
	check(t, "rich", rich(), rich(), api.NoError, own)
	for _, p := range partsOfLittle() {
		check(t, "little", p(), p(), api.NoError, own)
	}
}

// partsOfLittle are partitions with lists that are nil and empty, and with room, and with one that stands in all places.
func partsOfLittle() []func() api.Part {
	return []func() api.Part{
		func() api.Part { return api.Part{} },
		func() api.Part { return api.Part{Mode: most, Begun: least, Next: most} },
		func() api.Part {
			return api.Part{
				Memory: []int{}, Procs: []api.Proc{}, Boards: []api.Board{}, Buffers: []api.Buffer{}, Semas: []api.Sema{},
				Events: []api.Event{}, Samples: []api.Sample{}, Queues: []api.Queue{}, Latch: api.Latch{Lines: []int{}}, Given: []int{},
			}
		},
		func() api.Part {
			return api.Part{
				Memory: room(9), Procs: room(api.Proc{}), Boards: room(api.Board{}), Buffers: room(api.Buffer{}), Semas: room(api.Sema{}),
				Events: room(api.Event{}), Samples: room(api.Sample{}), Queues: room(api.Queue{}), Latch: api.Latch{Lines: room(9)}, Given: room(9),
			}
		},
		func() api.Part {
			return api.Part{
				Boards:  []api.Board{{L: room(api.Wait{Proc: 9})}, {L: []api.Wait{}}},
				Buffers: []api.Buffer{{Values: room(9), L: room(api.Wait{Proc: 9})}, {Values: []int{}, L: []api.Wait{}}},
				Semas:   []api.Sema{{L: room(api.Wait{Proc: 9})}, {L: []api.Wait{}}},
				Events:  []api.Event{{L: room(api.Wait{Proc: 9})}, {L: []api.Wait{}}},
				Queues:  []api.Queue{{Values: room(9)}, {Values: []int{}}},
				Latch:   api.Latch{Depth: least, Dropped: most},
			}
		},
	}
}

// P10.1, R3: lists of a partition that are one and the same are each the answer's own.
func TestOneListInAllPlaces(t *testing.T) {
	numbers, waiting := []int{1, 2, 3}, waits(0, 1, 2)
	p := api.Part{
		Memory: numbers, Given: numbers, Procs: []api.Proc{awake(full(api.Ready, 1))}, Latch: api.Latch{Lines: numbers},
		Boards: []api.Board{{L: waiting}, {L: waiting}}, Buffers: []api.Buffer{{Values: numbers, L: waiting}, {Values: numbers, L: waiting}},
		Semas: []api.Sema{{L: waiting}, {L: waiting}}, Events: []api.Event{{L: waiting}, {L: waiting}},
		Queues: []api.Queue{{Values: numbers}, {Values: numbers}},
	}
	was := text(p)
	for what, do := range deeds(configured(1), 0) {
		got, _ := do(p)
		if shared(places(got)) || text(p) != was {
			t.Error(what)
		}
	}
}

// deeds are all that may be done to a process; each gives it something to do where it may be done at all.
func deeds(c api.PartConf, i int) map[string]deed {
	return map[string]deed{
		"own":     told(procs.Own),
		"leave":   told(func(p api.Part) api.Part { return procs.Leave(p, i) }),
		"start":   func(p api.Part) (api.Part, int) { return procs.Start(c, p, i, 1000) },
		"stop":    func(p api.Part) (api.Part, int) { return procs.Stop(p, i) },
		"suspend": func(p api.Part) (api.Part, int) { return procs.Suspend(c, p, i) },
		"resume":  func(p api.Part) (api.Part, int) { return procs.Resume(p, i) },
		"prio":    func(p api.Part) (api.Part, int) { return procs.Prio(p, i, 12) },
		"block":   told(func(p api.Part) api.Part { return procs.Block(p, i, api.OnEvent, 1, 2000, 21) }),
		"go":      told(func(p api.Part) api.Part { return procs.Go(p, api.Wake{Proc: i, Code: 5, Value: -6}) }),
	}
}

// P10.1: Leave: no object of any kind has a wait of that one, the others keep their order, and nothing else changes.
func TestLeave(t *testing.T) {
	for _, i := range []int{rests, runs, held, sleeps, stuck, strange, fresh, many, many + 1, -1, -2, 77, least, most} {
		do := told(func(p api.Part) api.Part { return procs.Leave(p, i) })
		check(t, fmt.Sprint("leave ", i), rich(), change(rich(), func(p *api.Part) { leave(p, i) }), api.NoError, do)
		for _, p := range partsOfLittle() {
			check(t, fmt.Sprint("leave little ", i), p(), p(), api.NoError, do)
		}
	}
}

// P10.1: Leave: wherever the waits of that one stand, ahead of others, behind, between and alone, in each kind of object.
func TestLeaveAnywhere(t *testing.T) {
	for number := range 1 << 6 {
		var l, kept []api.Wait
		for place := range 6 {
			w := api.Wait{Proc: 4, Prio: place, Value: 10 * place}
			if number>>place&1 == 1 {
				w.Proc = 2
			} else {
				kept = append(kept, w)
			}
			l = append(l, w)
		}
		of := func(l []api.Wait) api.Part {
			return api.Part{
				Boards: []api.Board{{L: slices.Clone(l)}, {Is: true}, {L: slices.Clone(l)}}, Buffers: []api.Buffer{{L: slices.Clone(l)}, {Depth: 1}, {L: slices.Clone(l)}},
				Semas: []api.Sema{{L: slices.Clone(l)}, {Most: 1}, {L: slices.Clone(l)}}, Events: []api.Event{{L: slices.Clone(l)}, {Up: true}, {L: slices.Clone(l)}},
			}
		}
		check(t, fmt.Sprint(number), of(l), of(kept), api.NoError, told(func(p api.Part) api.Part { return procs.Leave(p, 2) }))
	}
}

// P10.2: Start: what a process begins with, whatever it had, and in no state but Dormant.
func TestStart(t *testing.T) {
	c := configured(many)
	for i := range many {
		want, code := rich(), api.NoAction
		if i == rests || i == fresh {
			code = api.NoError
			want.Procs[i] = api.Proc{State: api.Ready, Prio: 80 + i, C: api.Core{PC: 90 + i}, Since: 70, Until: -1, Due: -1, Next: -1}
			want.Next = 71
		}
		check(t, fmt.Sprint("start ", i), rich(), want, code, func(p api.Part) (api.Part, int) { return procs.Start(c, p, i, 5) })
	}
	for _, state := range states() {
		p := only(full(state, 2))
		want, code := only(full(state, 2)), api.NoAction
		if state == api.Dormant {
			code = api.NoError
			want.Procs[0] = api.Proc{State: api.Ready, Prio: 80, C: api.Core{PC: 90}, Since: 70, Until: -1, Due: -1, Next: -1}
			want.Next = 71
		}
		check(t, fmt.Sprint("start in state ", state), p, want, code, func(p api.Part) (api.Part, int) { return procs.Start(c, p, 0, 5) })
	}
}

// P10.2, R7: Start: its deadline and its next release, which there are only of a limit and a period above 0, and sums that wrap around.
func TestStartTimes(t *testing.T) {
	numbers := append(telling(), 5, 4096)
	for _, limit := range numbers {
		for _, period := range numbers {
			for _, now := range numbers {
				due, next := -1, -1
				if limit > 0 {
					due = now + limit
				}
				if period > 0 {
					next = now + period
				}
				want := api.Proc{State: api.Ready, Prio: 7, C: api.Core{PC: 8}, Since: 3, Until: -1, Due: due, Next: next}
				got, code := procs.Start(conf(api.ProcConf{Prio: 7, Entry: 8, Limit: limit, Period: period}), api.Part{Next: 3, Procs: make([]api.Proc, 1)}, 0, now)
				if code != api.NoError || got.Next != 4 || got.Procs[0] != want {
					t.Fatal(limit, period, now, got, code)
				}
			}
		}
	}
	got, _ := procs.Start(conf(api.ProcConf{Limit: 1, Period: 2}), bare(api.Proc{}), 0, most)
	if got.Procs[0].Due != least || got.Procs[0].Next != least+1 {
		t.Error("does not wrap around", got.Procs[0])
	}
}

// P10.2, R1: Start: priorities, entries and numbers of the next one, whatever they are.
func TestStartNumbers(t *testing.T) {
	for _, prio := range telling() {
		for _, entry := range telling() {
			for _, next := range telling() {
				got, code := procs.Start(conf(api.ProcConf{Prio: prio, Entry: entry}), api.Part{Next: next, Procs: make([]api.Proc, 1)}, 0, 0)
				want := api.Proc{State: api.Ready, Prio: prio, C: api.Core{PC: entry}, Since: next, Until: -1, Due: -1, Next: -1}
				if code != api.NoError || got.Next != next+1 || got.Procs[0] != want {
					t.Fatal(prio, entry, next, got, code)
				}
			}
		}
	}
}

// P10.2: Stop: what is left of a process, and of what it waits for, in each state but Dormant.
func TestStop(t *testing.T) {
	for i := range many {
		want, code := rich(), api.NoAction
		if i != rests && i != fresh {
			code = api.NoError
			want.Procs[i] = api.Proc{State: api.Dormant, Prio: i, Until: -1, Due: -1, Next: -1}
			leave(&want, i)
		}
		check(t, fmt.Sprint("stop ", i), rich(), want, code, func(p api.Part) (api.Part, int) { return procs.Stop(p, i) })
	}
	for _, state := range states() {
		for _, prio := range telling() {
			want, code := only(full(state, prio)), api.NoAction
			if state != api.Dormant {
				code = api.NoError
				want.Procs[0] = api.Proc{Prio: prio, Until: -1, Due: -1, Next: -1}
				leave(&want, 0)
			}
			check(t, fmt.Sprint("stop in state ", state), only(full(state, prio)), want, code, func(p api.Part) (api.Part, int) { return procs.Stop(p, 0) })
		}
	}
}

// P10.2, R2: Suspend: its codes, in their order, in each state, of each period, suspended and not; nobody is queued.
func TestSuspend(t *testing.T) {
	for _, state := range states() {
		for _, period := range telling() {
			for _, is := range []bool{false, true} {
				one := full(state, 3)
				one.Suspended = is
				want, code := only(one), api.NoError
				switch {
				case state == api.Dormant || period > 0:
					code = api.InvalidMode
				case is:
					code = api.NoAction
				default:
					want.Procs[0].Suspended = true
				}
				c := conf(api.ProcConf{Prio: 9, Period: period, Limit: 4})
				check(t, fmt.Sprint("suspend ", state, period, is), only(one), want, code, func(p api.Part) (api.Part, int) { return procs.Suspend(c, p, 0) })
			}
		}
	}
}

// P10.2: Suspend: of many, the one, by its own period.
func TestSuspendOneOfMany(t *testing.T) {
	for i := range many {
		for periodic := range many {
			c := configured(many)
			c.Procs[periodic].Period = 1
			want, code := rich(), api.NoError
			switch {
			case i == periodic || i == rests || i == fresh:
				code = api.InvalidMode
			case i == held || i == stuck:
				code = api.NoAction
			default:
				want.Procs[i].Suspended = true
			}
			check(t, fmt.Sprint("suspend ", i, periodic), rich(), want, code, func(p api.Part) (api.Part, int) { return procs.Suspend(c, p, i) })
		}
	}
}

// P10.2, R2: Resume: its codes, in their order, in each state, suspended and not; who is ready is queued, and nobody else.
func TestResume(t *testing.T) {
	for _, state := range states() {
		for _, is := range []bool{false, true} {
			one := full(state, 3)
			one.Suspended = is
			want, code := only(one), api.NoError
			switch {
			case state == api.Dormant:
				code = api.InvalidMode
			case !is:
				code = api.NoAction
			default:
				want.Procs[0].Suspended = false
				if state == api.Ready {
					queue(&want, 0)
				}
			}
			check(t, fmt.Sprint("resume ", state, is), only(one), want, code, func(p api.Part) (api.Part, int) { return procs.Resume(p, 0) })
		}
	}
	codes := [many]int{rests: api.InvalidMode, runs: api.NoAction, sleeps: api.NoAction, strange: api.NoAction, fresh: api.InvalidMode}
	for i, code := range codes {
		want := rich()
		if i == held || i == stuck {
			want.Procs[i].Suspended = false
		}
		if i == held {
			want.Procs[i].Since, want.Next = 70, 71
		}
		check(t, fmt.Sprint("resume ", i), rich(), want, code, func(p api.Part) (api.Part, int) { return procs.Resume(p, i) })
	}
}

// P10.2, R2: Prio: its codes, in their order, in each state, of each priority; who is ready is queued, and nobody else, and those who wait keep the priority with which they came.
func TestPrio(t *testing.T) {
	for _, prio := range append(telling(), 7, 14, 17) {
		bad := prio < 0 || prio > 15
		for _, state := range states() {
			for _, was := range []int{3, prio} {
				want, code := only(full(state, was)), api.NoError
				switch {
				case bad:
					code = api.InvalidParam
				case state == api.Dormant:
					code = api.InvalidMode
				default:
					want.Procs[0].Prio = prio
					if state == api.Ready {
						queue(&want, 0)
					}
				}
				check(t, fmt.Sprint("prio ", prio, state), only(full(state, was)), want, code, func(p api.Part) (api.Part, int) { return procs.Prio(p, 0, prio) })
			}
		}
		for i := range many {
			want, code := rich(), api.NoError
			switch {
			case bad:
				code = api.InvalidParam
			case i == rests || i == fresh:
				code = api.InvalidMode
			default:
				want.Procs[i].Prio = prio
				if i == runs || i == held {
					queue(&want, i)
				}
			}
			check(t, fmt.Sprint("prio ", prio, " of ", i), rich(), want, code, func(p api.Part) (api.Part, int) { return procs.Prio(p, i, prio) })
		}
	}
}

// P10.3: Block: who is ready waits, nobody else does, and nobody is queued.
func TestBlock(t *testing.T) {
	for _, state := range states() {
		want := only(full(state, 3))
		if state == api.Ready {
			one := &want.Procs[0]
			one.State, one.Kind, one.Object, one.Until, one.Call = api.Waiting, api.OnBuffer, 1, 77, 15
		}
		check(t, fmt.Sprint("block in state ", state), only(full(state, 3)), want, api.NoError,
			told(func(p api.Part) api.Part { return procs.Block(p, 0, api.OnBuffer, 1, 77, 15) }))
	}
	for i := range many {
		want := rich()
		if i == runs || i == held {
			one := &want.Procs[i]
			one.State, one.Kind, one.Object, one.Until, one.Call = api.Waiting, api.OnTime, 0, -1, 7
		}
		check(t, fmt.Sprint("block ", i), rich(), want, api.NoError,
			told(func(p api.Part) api.Part { return procs.Block(p, i, api.OnTime, 0, -1, 7) }))
	}
}

// P10.3, R1: Block: whatever it waits for.
func TestBlockNumbers(t *testing.T) {
	numbers := telling()
	for a, kind := range numbers {
		for b, object := range numbers {
			until, call := numbers[(a+b)%len(numbers)], numbers[(a+3*b+1)%len(numbers)]
			want := full(api.Waiting, 3)
			want.Kind, want.Object, want.Until, want.Call = kind, object, until, call
			if got := procs.Block(bare(full(api.Ready, 3)), 0, kind, object, until, call); got.Procs[0] != want || got.Next != 0 {
				t.Fatal(kind, object, until, call, got)
			}
		}
	}
}

// P10.3: Go: who waits goes on, queued, with what its call returns; nobody else does, and waits of it stay where they are.
func TestGo(t *testing.T) {
	for _, state := range states() {
		for _, is := range []bool{false, true} {
			one := full(state, 3)
			one.Suspended, one.Pending = is, is
			want := only(one)
			if state == api.Waiting {
				goOn(&want, 0, 5, -6)
			}
			check(t, fmt.Sprint("go in state ", state), only(one), want, api.NoError,
				told(func(p api.Part) api.Part { return procs.Go(p, api.Wake{Proc: 0, Code: 5, Value: -6}) }))
		}
	}
	for i := range many {
		want := rich()
		if i == sleeps || i == stuck {
			goOn(&want, i, api.TimedOut, 0)
		}
		check(t, fmt.Sprint("go ", i), rich(), want, api.NoError,
			told(func(p api.Part) api.Part { return procs.Go(p, api.Wake{Proc: i, Code: api.TimedOut}) }))
	}
}

// goOn goes by the chapter's words.
func goOn(p *api.Part, i, code, value int) {
	one := &p.Procs[i]
	one.State, one.Until, one.Kind, one.Object = api.Ready, -1, api.NoKind, 0
	one.Pending, one.Code, one.Value = true, code, value
	one.C.R[0], one.C.R[1] = code, value
	queue(p, i)
}

// P10.3, R1: Go: whatever its call returns.
func TestGoNumbers(t *testing.T) {
	for _, code := range telling() {
		for _, value := range telling() {
			want := bare(full(api.Waiting, 3))
			goOn(&want, 0, code, value)
			got := procs.Go(bare(full(api.Waiting, 3)), api.Wake{Proc: 0, Code: code, Value: value})
			if text(got) != text(want) || got.Procs[0].C.R != [api.Registers]int{code, value, 34, 35} || got.Procs[0].Call != 43 {
				t.Fatal(code, value, got)
			}
		}
	}
}

// P10.2, P10.3, R2: a process that is not there is told ahead of all else, and the partition is as it was.
func TestNotThere(t *testing.T) {
	c := configured(many)
	c.Procs[runs].Period = 5
	for _, i := range []int{least, least + 1, -many, -1, many, many + 1, 1 << 8, 1<<32 + runs, most - 1, most} {
		for what, do := range deeds(c, i) {
			if what == "own" || what == "leave" {
				continue
			}
			code := api.InvalidParam
			if what == "block" || what == "go" {
				code = api.NoError
			}
			check(t, fmt.Sprint(what, " ", i), rich(), rich(), code, do)
		}
	}
	for what, do := range deeds(configured(3), 0) {
		if what == "own" || what == "leave" {
			continue
		}
		if got, code := do(api.Part{Next: 4}); len(got.Procs) != 0 || got.Next != 4 || code != api.InvalidParam && what != "block" && what != "go" {
			t.Error(what, got, code)
		}
	}
	check(t, "prio", rich(), rich(), api.InvalidParam, func(p api.Part) (api.Part, int) { return procs.Prio(p, many, 3) })
}

// P10.2: where the configuration is told, a process is there only in both.
func TestThereInOneAlone(t *testing.T) {
	for inConf := range many + 3 {
		c := configured(inConf)
		for i := -1; i < many+3; i++ {
			there := i >= 0 && i < inConf && i < many
			for _, what := range []string{"start", "suspend"} {
				do := deeds(c, i)[what]
				if !there {
					check(t, fmt.Sprint(what, " ", i, " of ", inConf), rich(), rich(), api.InvalidParam, do)
				} else if _, code := do(rich()); code == api.InvalidParam {
					t.Error(what, i, inConf)
				}
			}
		}
	}
}

// P10.2, P10.3: where no configuration is told, all of the partition's are there, also those that were never configured.
func TestThereWithoutConfiguration(t *testing.T) {
	l := make([]api.Proc, 40)
	for i := range l {
		l[i] = awake(full(api.Ready, 3))
	}
	for i := range l {
		for what, do := range map[string]deed{
			"stop":  func(p api.Part) (api.Part, int) { return procs.Stop(p, i) },
			"prio":  func(p api.Part) (api.Part, int) { return procs.Prio(p, i, 12) },
			"block": told(func(p api.Part) api.Part { return procs.Block(p, i, 1, 2, 3, 4) }),
		} {
			got, code := do(bare(l...))
			if code != api.NoError || got.Procs[i] == l[i] || !others(got.Procs, l, i) {
				t.Error(what, i, code)
			}
		}
	}
}

// others tells whether of two lists all are the same, but for one.
func others(a, b []api.Proc, i int) bool {
	for j := range b {
		if j != i && a[j] != b[j] {
			return false
		}
	}
	return len(a) == len(b)
}

// P10.2, P10.3, R7: the number that the next one gets goes up by one with each that is queued, and wraps around.
func TestQueued(t *testing.T) {
	for _, next := range telling() {
		for what, p := range map[string]api.Part{
			"start":  with(next, full(api.Dormant, 1)),
			"resume": with(next, full(api.Ready, 1)),
			"prio":   with(next, full(api.Ready, 1)),
			"go":     with(next, full(api.Waiting, 1)),
		} {
			got, code := deeds(configured(1), 0)[what](p)
			if code != api.NoError || got.Procs[0].Since != next || got.Next != next+1 {
				t.Error(what, next, got.Procs[0].Since, got.Next, code)
			}
		}
	}
	p, _ := procs.Prio(with(most, full(api.Ready, 1)), 0, 3)
	if p.Procs[0].Since != most || p.Next != least {
		t.Error("does not wrap around", p.Procs[0].Since, p.Next)
	}
}

// P10.2, P10.3: those who are queued one behind the other have rising numbers.
func TestQueuedInOrder(t *testing.T) {
	c := configured(4)
	p := api.Part{Procs: procs.New(c), Next: 5}
	for _, i := range []int{2, 0, 3, 1} {
		p, _ = procs.Start(c, p, i, 0)
	}
	p, _ = procs.Prio(p, 2, 1)
	p = procs.Block(p, 0, api.OnTime, 0, 9, api.CallDelay)
	p, _ = procs.Suspend(c, p, 3)
	p, _ = procs.Resume(p, 0)
	p, _ = procs.Suspend(c, p, 0)
	p, _ = procs.Resume(p, 0)
	p = procs.Go(p, api.Wake{Proc: 0})
	p, _ = procs.Resume(p, 3)
	p, _ = procs.Stop(p, 1)
	var since []int
	for _, one := range p.Procs {
		since = append(since, one.Since)
	}
	if !slices.Equal(since, []int{10, 0, 9, 11}) || p.Next != 12 {
		t.Error(since, p.Next)
	}
}

// P10.4: what is done to one process changes no other one, and of the partition only the number that the next one gets, and the waits of who stops, in long chains of deeds.
func TestOthersStay(t *testing.T) {
	c := configured(many)
	c.Procs[held].Period, c.Procs[sleeps].Limit = 7, 8
	p := rich()
	x := 1
	names := []string{"own", "start", "stop", "suspend", "resume", "prio", "block", "go", "start", "block"}
	for range 4000 {
		x = (x*1103515245 + 12345) & (1<<31 - 1)
		i, what := x>>8%many, names[x>>16%len(names)]
		was := text(p)
		got, code := deeds(c, i)[what](p)
		if text(p) != was {
			t.Fatal(what, i, "what was handed in is another one")
		}
		if !others(got.Procs, p.Procs, i) {
			t.Fatal(what, i, "another process is another one")
		}
		want := p
		want.Procs = got.Procs
		if got.Next != p.Next {
			if got.Next != p.Next+1 || got.Procs[i].Since != p.Next || got.Procs[i].State != api.Ready {
				t.Fatal(what, i, "the next number", p.Next, got)
			}
			want.Next++
		}
		if what == "stop" && code == api.NoError {
			want = procs.Own(want)
			leave(&want, i)
		}
		if text(got) != text(want) {
			t.Fatal(what, i, "more is another one", want, got)
		}
		p = got
		if what == "block" && x>>4%2 == 0 && p.Procs[i].State == api.Waiting {
			p.Semas[0].L = append(p.Semas[0].L, api.Wait{Proc: i, Prio: 1})
			p.Boards[1].L = append(p.Boards[1].L, api.Wait{Proc: i, Prio: 2})
		}
	}
}

// P10.4, R3: each deed, to each process, where it comes to something and where not: nothing of the answer is shared, and no other process is another one.
func TestEachDeedToEach(t *testing.T) {
	c := configured(many)
	for i := -1; i <= many; i++ {
		for what, do := range deeds(c, i) {
			want, code := do(rich())
			if !others(want.Procs, rich().Procs, i) {
				t.Error(what, i)
			}
			check(t, fmt.Sprint(what, " ", i), rich(), want, code, do)
		}
	}
}

// R3: a configuration stays as it was.
func TestConfigurationStays(t *testing.T) {
	c := configured(many)
	c.Procs = room(api.ProcConf{Prio: 99}, c.Procs...)
	was, wasMemory := text(c), memory(c)
	for i := range many {
		for _, do := range deeds(c, i) {
			got, _ := do(rich())
			spoil(got)
		}
	}
	procs.New(c)
	if text(c) != was || memory(c) != wasMemory {
		t.Error(c)
	}
}

// P1, R1: any numbers of processes, lists and codes are answered.
func TestWrongInputs(t *testing.T) {
	strangeParts := append(partsOfLittle(), rich, func() api.Part { return with(most, full(least, least), full(most, most)) })
	strangeConfs := []api.PartConf{{}, {Procs: []api.ProcConf{}}, configured(1), configured(100), conf(api.ProcConf{Prio: least, Period: least, Limit: least, Entry: least}), conf(api.ProcConf{Prio: most, Period: most, Limit: most, Entry: most, Auto: true})}
	for _, part := range strangeParts {
		for _, c := range strangeConfs {
			for _, i := range telling() {
				p := part()
				was, there := text(p), i >= 0 && i < len(p.Procs)
				for _, number := range telling() {
					procs.Start(c, p, i, number)
					procs.Prio(p, i, number)
					procs.Block(p, i, number, number, number, number)
					procs.Go(p, api.Wake{Proc: i, Code: number, Value: number})
				}
				for what, do := range deeds(c, i) {
					if got, code := do(p); !there && what != "leave" && (text(got) != was || code != api.InvalidParam && code != api.NoError) {
						t.Error(what, i, code)
					}
				}
				if text(p) != was {
					t.Error(i, "what was handed in is another one")
				}
			}
		}
	}
}

// P1: very many processes, and very many who wait, are done with soon.
func TestVeryManyEnd(t *testing.T) {
	const n = 1 << 16
	c := configured(n)
	p := api.Part{Procs: procs.New(c), Boards: []api.Board{{}}, Events: []api.Event{{}}}
	for i := range n {
		p.Boards[0].L = append(p.Boards[0].L, api.Wait{Proc: i % 2})
		p.Events[0].L = append(p.Events[0].L, api.Wait{Proc: i})
	}
	for _, i := range []int{0, n / 2, n - 1} {
		started, code := procs.Start(c, p, i, 0)
		if code != api.NoError || !others(started.Procs, p.Procs, i) {
			t.Error("start", i, code)
		}
		if stopped, code := procs.Stop(started, i); code != api.NoError || len(stopped.Events[0].L) != n-1 || !others(stopped.Procs, p.Procs, i) {
			t.Error("stop", i, code)
		}
	}
	if left := procs.Leave(p, 1); len(left.Boards[0].L) != n/2 {
		t.Error("leave", len(left.Boards[0].L))
	}
}
