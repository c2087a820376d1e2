package times_test

import (
	"fmt"
	"slices"
	"testing"

	"quarterdeck/api"
	"quarterdeck/procs"
	"quarterdeck/times"
)

// telling are numbers around those that may be, and the least and the greatest.
func telling() []int {
	return []int{least, least + 1, -2, -1, 0, 1, 2, 9, 10, 11, 4095, 4096, 4097, 1<<8 + 1, 1<<32 + 1, most - 1, most}
}

// states are all of them, and numbers that are none, some of which are one when they are cut to fewer bits.
func states() []int {
	return []int{least, -1, api.Dormant, api.Ready, api.Waiting, api.States, 1<<8 + 1, 1<<32 + 1, 1<<32 + 2, most}
}

// kinds are all that is waited for, and numbers that are none of these.
func kinds() []int {
	return []int{least, -1, api.NoKind, api.OnTime, api.OnPeriod, api.OnBoard, api.OnBuffer, api.OnSema, api.OnEvent, api.OnEvent + 1, 1<<8 + 1, 1<<32 + 1, 1<<32 + 2, most}
}

// full is a process with no number of noughts, so that each that is left or lost is told.
func full(state, kind int) api.Proc {
	return api.Proc{
		State: state, Prio: 30, Suspended: true,
		C:     api.Core{PC: 31, R: [api.Registers]int{32, 33, 34, 35}},
		Since: 36, Until: 10, Kind: kind, Object: 38, Due: 9, Next: 40,
		Pending: true, Code: 41, Value: 42, Call: 43,
	}
}

// sleeper waits for something up to a tick; racer is in a state, with a deadline.
func sleeper(kind, until int) api.Proc {
	one := full(api.Waiting, kind)
	one.Suspended, one.Pending, one.Until = false, false, until
	return one
}

func racer(state, kind, due int) api.Proc {
	one := full(state, kind)
	one.Suspended, one.Due = false, due
	return one
}

// several are processes in each state, that wait for each kind, to go on at 10 or not.
func several() []api.Proc {
	return []api.Proc{
		sleeper(api.OnSema, 9), sleeper(api.OnTime, 10), sleeper(api.OnBuffer, 11), full(api.Waiting, api.OnPeriod),
		sleeper(api.OnEvent, -1), full(api.Ready, api.OnTime), sleeper(api.OnBoard, 0), full(api.Dormant, api.OnPeriod),
		sleeper(api.OnPeriod, 3), sleeper(api.NoKind, 10), full(api.States, api.OnSema), sleeper(api.OnPeriod, 11), sleeper(77, 2),
	}
}

// rich has several of them, and objects and ports of each kind.
func rich() api.Part { return with(70, several()...) }

// configured are so many processes, each with another period and limit.
func configured(n int) api.PartConf {
	c := api.PartConf{Words: 5, Boards: 2}
	for i := range n {
		c.Procs = append(c.Procs, api.ProcConf{Prio: 80 + i, Entry: 90 + i, Period: 100 + i, Limit: 200 + i})
	}
	return c
}

// conf has one process, of a period and a limit.
func conf(period, limit int) api.PartConf {
	return api.PartConf{Procs: []api.ProcConf{{Prio: 9, Period: period, Limit: limit, Entry: 8}}}
}

// The calls, with all that each takes but the partition.
func wake(c api.PartConf, now int) call {
	return func(p api.Part) answer { return answer{P: times.Wake(c, p, now)} }
}

func late(now int) call {
	return func(p api.Part) answer {
		l, q := times.Late(p, now)
		return answer{L: l, P: q}
	}
}

func period(c api.PartConf, i int) call {
	return func(p api.Part) answer {
		q, code := times.Period(c, p, i)
		return answer{P: q, Code: code}
	}
}

func delay(i, ticks, now int) call {
	return func(p api.Part) answer {
		q, code := times.Delay(p, i, ticks, now)
		return answer{P: q, Code: code}
	}
}

func replenish(c api.PartConf, i, ticks, now int) call {
	return func(p api.Part) answer {
		q, code := times.Replenish(c, p, i, ticks, now)
		return answer{P: q, Code: code}
	}
}

// leave goes by the words of procs: no object has a wait of that one, and the others keep their order.
func leave(p *api.Part, i int) {
	keep := func(l []api.Wait) []api.Wait {
		var kept []api.Wait
		for _, w := range l {
			if w.Proc != i {
				kept = append(kept, w)
			}
		}
		return kept
	}
	for k := range p.Boards {
		p.Boards[k].L = keep(p.Boards[k].L)
	}
	for k := range p.Buffers {
		p.Buffers[k].L = keep(p.Buffers[k].L)
	}
	for k := range p.Semas {
		p.Semas[k].L = keep(p.Semas[k].L)
	}
	for k := range p.Events {
		p.Events[k].L = keep(p.Events[k].L)
	}
}

// queue, goOn and block go by the words of procs.
func queue(p *api.Part, i int) {
	p.Procs[i].Since = p.Next
	p.Next++
}

func goOn(p *api.Part, i, code int) {
	one := &p.Procs[i]
	one.State, one.Until, one.Kind, one.Object = api.Ready, -1, api.NoKind, 0
	one.Pending, one.Code, one.Value = true, code, 0
	one.C.R[0], one.C.R[1] = code, 0
	queue(p, i)
}

func block(one *api.Proc, kind, until, call int) {
	one.State, one.Kind, one.Object, one.Until, one.Call = api.Waiting, kind, 0, until, call
}

// woken is what is wanted of Wake, process by process, by the chapter's words.
func woken(c api.PartConf, p api.Part, now int) answer {
	for i := range p.Procs {
		one := p.Procs[i]
		switch {
		case one.State != api.Waiting || one.Until < 0 || one.Until > now:
		case one.Kind == api.OnTime:
			goOn(&p, i, api.NoError)
		case one.Kind == api.OnPeriod:
			goOn(&p, i, api.NoError)
			if i < len(c.Procs) {
				p.Procs[i].Due = -1
				if limit := c.Procs[i].Limit; limit > 0 {
					p.Procs[i].Due = now + limit
				}
				p.Procs[i].Next = one.Until + c.Procs[i].Period
			}
		default:
			leave(&p, i)
			goOn(&p, i, api.TimedOut)
		}
	}
	return answer{P: p}
}

// told is what is wanted of Late, by the chapter's words.
func told(p api.Part, now int) answer {
	var l []int
	for i, one := range p.Procs {
		if one.State == api.Dormant || one.State == api.Waiting && one.Kind == api.OnPeriod {
			continue
		}
		if one.Due >= 0 && one.Due <= now {
			l = append(l, i)
			p.Procs[i].Due = -1
		}
	}
	return answer{L: l, P: p}
}

// P11.1, P11.3: the chapter's example.
func TestExample(t *testing.T) {
	p, code := times.Delay(api.Part{Procs: []api.Proc{{State: api.Ready, Until: -1, Due: -1, Next: -1}}}, 0, 5, 10)
	if code != api.Blocked || p.Procs[0].State != api.Waiting {
		t.Error(code, p)
	}
	for now := 10; now < 15; now++ {
		if q := times.Wake(api.PartConf{}, p, now); text(q) != text(p) {
			t.Error(now, q)
		}
	}
	want := api.Proc{State: api.Ready, Until: -1, Due: -1, Next: -1, Pending: true, Call: api.CallDelay}
	for now := 15; now < 18; now++ {
		if q := times.Wake(api.PartConf{}, p, now); q.Procs[0] != want || q.Next != 1 {
			t.Error(now, q)
		}
	}
}

// P11.1: Wake: one of each state, kind and Until, suspended and not, at any tick.
func TestWakeOne(t *testing.T) {
	c := conf(7, 4)
	for _, state := range states() {
		for _, kind := range kinds() {
			for _, until := range telling() {
				for _, now := range telling() {
					one := full(state, kind)
					one.Until, one.Suspended = until, (until^now)&2 == 0
					got := times.Wake(c, api.Part{Next: 5, Procs: []api.Proc{one}}, now)
					want := woken(c, api.Part{Next: 5, Procs: []api.Proc{one}}, now).P
					if got.Procs[0] != want.Procs[0] || got.Next != want.Next {
						t.Fatal(state, kind, until, now, got, want)
					}
				}
			}
		}
	}
}

// P11.1: Wake: the edges of Until, in numbers: none, 0, just below the tick, the tick itself, just above it; a tick below 0 wakes nobody.
func TestWakeEdges(t *testing.T) {
	for _, kind := range kinds() {
		for _, x := range []struct {
			until, now int
			wakes      bool
		}{
			{-1, 10, false}, {-2, 10, false}, {least, 10, false}, {least, most, false}, {-1, most, false},
			{0, 10, true}, {9, 10, true}, {10, 10, true}, {11, 10, false}, {most, 10, false},
			{0, 0, true}, {1, 0, false}, {0, -1, false}, {-1, -1, false}, {-2, -1, false}, {least, least, false},
			{most, most - 1, false}, {most, most, true}, {most - 1, most, true},
		} {
			p := with(70, sleeper(kind, x.until))
			want := with(70, sleeper(kind, x.until))
			if x.wakes {
				want = woken(configured(1), want, x.now).P
				if want.Procs[0].State != api.Ready {
					t.Fatal(kind, x)
				}
			}
			check(t, fmt.Sprint(kind, x), p, answer{P: want}, wake(configured(1), x.now))
		}
	}
}

// P11.1: Wake: who waited for a time goes on with NoError and 0; no deadline or release of it changes, and no object's waits.
func TestWakeFromTime(t *testing.T) {
	want := with(70, full(api.Ready, api.NoKind))
	want.Procs[0].Object, want.Procs[0].Until = 0, -1
	want.Procs[0].C.R = [api.Registers]int{api.NoError, 0, 34, 35}
	want.Procs[0].Code, want.Procs[0].Value = api.NoError, 0
	want.Procs[0].Since, want.Next = 70, 71
	for _, c := range []api.PartConf{{}, configured(1), configured(9)} {
		check(t, "from time", with(70, full(api.Waiting, api.OnTime)), answer{P: want}, wake(c, 12))
	}
}

// P11.1, R7: Wake: who waited for its release has its Due of now and its Limit, where that is above 0, and its Next of its Until and its Period, whatever that is; where it isn't configured, it has those that it had.
func TestWakeFromRelease(t *testing.T) {
	for _, limit := range telling() {
		for _, every := range telling() {
			for _, until := range []int{0, 1, 9, 10, most - 1, most} {
				for _, now := range []int{10, most - 5, most} {
					if until > now {
						continue
					}
					due := -1
					if limit > 0 {
						due = now + limit
					}
					one := sleeper(api.OnPeriod, until)
					got := times.Wake(conf(every, limit), api.Part{Next: 5, Procs: []api.Proc{one}}, now).Procs[0]
					if got.State != api.Ready || got.Due != due || got.Next != until+every || got.Code != api.NoError || got.Until != -1 || got.Since != 5 {
						t.Fatal(limit, every, until, now, got)
					}
					if got := times.Wake(api.PartConf{}, api.Part{Procs: []api.Proc{one}}, now).Procs[0]; got.State != api.Ready || got.Due != 9 || got.Next != 40 {
						t.Fatal("not configured", until, now, got)
					}
				}
			}
		}
	}
	got := times.Wake(conf(1, 2), api.Part{Procs: []api.Proc{sleeper(api.OnPeriod, most)}}, most).Procs[0]
	if got.Due != least+1 || got.Next != least {
		t.Error("does not wrap around", got)
	}
}

// P11.1: Wake: of those who waited for their release, each has its own period and limit, and those that aren't configured keep what they had.
func TestWakeReleasesOfMany(t *testing.T) {
	for n := range 8 {
		l := make([]api.Proc, 5)
		for i := range l {
			l[i] = sleeper(api.OnPeriod, 3+i)
		}
		got := times.Wake(configured(n), api.Part{Procs: l}, 20)
		for i, one := range got.Procs {
			due, next := 220+i, 103+2*i
			if i >= n {
				due, next = 9, 40
			}
			if one.State != api.Ready || one.Due != due || one.Next != next || one.Since != i {
				t.Error(n, i, one)
			}
		}
	}
}

// P11.1: Wake: who is too late for what it waits for leaves the objects of all kinds, whichever its own is, and goes on with TimedOut; those who wait longer stay, in their order.
func TestWakeTooLate(t *testing.T) {
	for _, kind := range kinds() {
		if kind == api.OnTime || kind == api.OnPeriod {
			continue
		}
		p := with(70, full(api.Waiting, kind), sleeper(kind, 11), sleeper(kind, -1))
		want := with(70, full(api.Ready, api.NoKind), sleeper(kind, 11), sleeper(kind, -1))
		want.Boards[0].L = []api.Wait{{Proc: 1, Prio: 51, Value: 61}, {Proc: 2, Prio: 53, Value: 63}}
		want.Buffers[0].L = want.Buffers[0].L[:4]
		want.Semas[0].L = []api.Wait{{Proc: 1, Prio: 50, Value: 60}, {Proc: 2, Prio: 52, Value: 62}}
		want.Semas[1].L = []api.Wait{{Proc: 6, Prio: 51, Value: 61}, {Proc: 4, Prio: 53, Value: 63}, {Proc: -1, Prio: 55, Value: 65}}
		want.Events[1].L = []api.Wait{{Proc: most, Prio: 50, Value: 60}, {Proc: 3, Prio: 53, Value: 63}, {Proc: least, Prio: 54, Value: 64}}
		one := &want.Procs[0]
		one.Object, one.Until, one.Since, want.Next = 0, -1, 70, 71
		one.C.R = [api.Registers]int{api.TimedOut, 0, 34, 35}
		one.Code, one.Value = api.TimedOut, 0
		check(t, fmt.Sprint("too late ", kind), p, answer{P: want}, wake(configured(3), 10))
	}
}

// P11.1: Wake: several go on at one tick process by process, so that they are queued in that order, also where the number wraps around; the others stay.
func TestWakeInOrder(t *testing.T) {
	for _, next := range telling() {
		got := times.Wake(configured(20), with(next, several()...), 10)
		order := []int{0, 1, 3, 6, 8, 9, 12}
		for place, i := range order {
			if one := got.Procs[i]; one.State != api.Ready || one.Since != next+place {
				t.Error(next, i, one)
			}
		}
		if got.Next != next+len(order) {
			t.Error(next, got.Next)
		}
		for i, one := range several() {
			if !slices.Contains(order, i) && got.Procs[i] != one {
				t.Error(next, i, got.Procs[i])
			}
		}
	}
}

// P11.1, R3: Wake: of processes of each kind those whose time came go on, and nothing else is another one, with fewer and more of them configured.
func TestWakeRich(t *testing.T) {
	for _, now := range []int{least, -1, 0, 1, 2, 3, 9, 10, 11, 12, most} {
		for _, n := range []int{0, 1, 4, 9, 13, 30} {
			c := configured(n)
			want := woken(c, rich(), now)
			check(t, fmt.Sprint("wake ", now, n), rich(), want, wake(c, now))
			if again := times.Wake(c, want.P, now); text(again) != text(want.P) {
				t.Error("wakes twice", now, n)
			}
		}
	}
	if got := times.Wake(configured(13), rich(), -1); text(got) != text(rich()) {
		t.Error(got)
	}
}

// P11.2: Late: one of each state, kind and Due, suspended and not, at any tick.
func TestLateOne(t *testing.T) {
	for _, state := range states() {
		for _, kind := range kinds() {
			for _, due := range telling() {
				for _, now := range telling() {
					one := full(state, kind)
					one.Due, one.Suspended = due, (due^now)&2 == 0
					want := told(api.Part{Next: 5, Procs: []api.Proc{one}}, now)
					l, got := times.Late(api.Part{Next: 5, Procs: []api.Proc{one}}, now)
					if len(l) != len(want.L) || got.Procs[0] != want.P.Procs[0] || got.Next != 5 || len(l) == 1 && l[0] != 0 {
						t.Fatal(state, kind, due, now, l, got)
					}
				}
			}
		}
	}
}

// P11.2: Late: the edges of Due, in numbers; the tick itself is late.
func TestLateEdges(t *testing.T) {
	for _, x := range []struct {
		due, now int
		late     bool
	}{
		{-1, 10, false}, {-2, 10, false}, {least, most, false}, {0, 10, true}, {9, 10, true}, {10, 10, true}, {11, 10, false},
		{0, 0, true}, {1, 0, false}, {0, -1, false}, {-1, -1, false}, {least, least, false}, {most, most - 1, false}, {most, most, true},
	} {
		want := answer{P: with(70, racer(api.Ready, api.NoKind, x.due))}
		if x.late {
			want.L = []int{0}
			want.P.Procs[0].Due = -1
		}
		check(t, fmt.Sprint(x), with(70, racer(api.Ready, api.NoKind, x.due)), want, late(x.now))
	}
}

// P11.2: Late: who is there: Ready, Waiting for anything but its release, in no state, but not Dormant; their numbers rise, and only their Due is another one.
func TestLateOfMany(t *testing.T) {
	l := []api.Proc{
		racer(api.Ready, api.NoKind, 10), racer(api.Dormant, api.NoKind, 3), racer(api.Waiting, api.OnTime, 2),
		racer(api.Waiting, api.OnPeriod, 4), racer(api.Waiting, api.OnSema, 0), racer(api.Ready, api.OnPeriod, 9),
		racer(api.Ready, api.NoKind, 11), racer(api.States, api.OnPeriod, 5), racer(-1, api.OnBoard, -1),
		racer(api.Waiting, api.NoKind, 1), full(api.Ready, api.NoKind), full(api.Waiting, api.OnEvent), racer(api.Waiting, api.OnPeriod, -1),
	}
	want := answer{L: []int{0, 2, 4, 5, 7, 9, 10, 11}, P: with(70, l...)}
	for _, i := range want.L {
		want.P.Procs[i].Due = -1
	}
	check(t, "late", with(70, l...), want, late(10))
	for _, now := range telling() {
		want := told(with(70, l...), now)
		check(t, fmt.Sprint("late ", now), with(70, l...), want, late(now))
		check(t, fmt.Sprint("late rich ", now), rich(), told(rich(), now), late(now))
		check(t, fmt.Sprint("late again ", now), want.P, answer{P: told(with(70, l...), now).P}, late(now))
	}
}

// P11.3, R2: Period: its codes, in their order, in each state, of each period, suspended and not; who waits has no deadline.
func TestPeriod(t *testing.T) {
	for _, state := range states() {
		for _, every := range telling() {
			for _, next := range telling() {
				one := full(state, api.OnSema)
				one.Next, one.Suspended = next, next&2 == 0
				want, code := one, api.InvalidMode
				if every != 0 && state == api.Ready {
					code = api.Blocked
					block(&want, api.OnPeriod, next, api.CallPeriod)
					want.Due = -1
				}
				got, gotCode := times.Period(conf(every, 4), api.Part{Next: 5, Procs: []api.Proc{one}}, 0)
				if gotCode != code || got.Procs[0] != want || got.Next != 5 {
					t.Fatal(state, every, next, got, gotCode)
				}
			}
		}
	}
	for _, i := range []int{0, 1} {
		p := func() api.Part {
			return with(70, full(api.Ready, api.NoKind), racer(api.Ready, api.NoKind, 3), full(api.Ready, 1))
		}
		want := answer{P: p(), Code: api.Blocked}
		block(&want.P.Procs[i], api.OnPeriod, 40, api.CallPeriod)
		want.P.Procs[i].Due = -1
		check(t, fmt.Sprint("period ", i), p(), want, period(configured(2), i))
	}
}

// P11.3: Period: of many, by its own period; with InvalidMode all is as it was.
func TestPeriodOneOfMany(t *testing.T) {
	for i, one := range several() {
		for n := range several() {
			c := configured(len(several()))
			c.Procs[n].Period = 0
			want := answer{P: rich(), Code: api.InvalidMode}
			if one.State == api.Ready && i != n {
				want.Code = api.Blocked
				block(&want.P.Procs[i], api.OnPeriod, 40, api.CallPeriod)
				want.P.Procs[i].Due = -1
			}
			check(t, fmt.Sprint("period ", i, n), rich(), want, period(c, i))
		}
	}
}

// P11.3, R2, R7: Delay: its codes, in their order, in each state, of each number of ticks, at any tick, suspended and not; the deadline stays.
func TestDelay(t *testing.T) {
	for _, state := range states() {
		for _, ticks := range append(telling(), 2048) {
			for _, now := range telling() {
				one := full(state, api.OnSema)
				one.Suspended = now&2 == 0
				want, next, code := one, 5, api.NoError
				switch {
				case ticks < 0 || ticks > 4096:
					code = api.InvalidParam
				case state != api.Ready:
					code = api.InvalidMode
				case ticks == 0:
					want.Since, next = 5, 6
				default:
					code = api.Blocked
					block(&want, api.OnTime, now+ticks, api.CallDelay)
				}
				got, gotCode := times.Delay(api.Part{Next: 5, Procs: []api.Proc{one}}, 0, ticks, now)
				if gotCode != code || got.Procs[0] != want || got.Next != next {
					t.Fatal(state, ticks, now, got, gotCode)
				}
			}
		}
	}
	got, code := times.Delay(api.Part{Procs: []api.Proc{{State: api.Ready}}}, 0, 1, most)
	if code != api.Blocked || got.Procs[0].Until != least {
		t.Error("does not wrap around", got, code)
	}
}

// P11.3: Delay: who is delayed by nothing is queued, whatever the number that it gets, and the next one gets one more, which wraps around.
func TestDelayByNothing(t *testing.T) {
	for _, next := range telling() {
		for _, prio := range telling() {
			one := full(api.Ready, api.NoKind)
			one.Prio = prio
			want := answer{P: with(next, one, full(api.Ready, 1)), Code: api.NoError}
			queue(&want.P, 0)
			check(t, fmt.Sprint(next, prio), with(next, one, full(api.Ready, 1)), want, delay(0, 0, 10))
		}
	}
	got, code := times.Delay(api.Part{Next: most, Procs: []api.Proc{{State: api.Ready}}}, 0, 0, 0)
	if code != api.NoError || got.Procs[0].Since != most || got.Next != least {
		t.Error("does not wrap around", got, code)
	}
}

// P11.3: Delay: one of many, in each state; with InvalidParam or InvalidMode all is as it was.
func TestDelayOneOfMany(t *testing.T) {
	for i, one := range several() {
		for _, ticks := range []int{least, -1, 0, 1, 4096, 4097, most} {
			want := answer{P: rich(), Code: api.Blocked}
			switch {
			case ticks < 0 || ticks > 4096:
				want.Code = api.InvalidParam
			case one.State != api.Ready:
				want.Code = api.InvalidMode
			case ticks == 0:
				want.Code = api.NoError
				queue(&want.P, i)
			default:
				block(&want.P.Procs[i], api.OnTime, 10+ticks, api.CallDelay)
			}
			check(t, fmt.Sprint("delay ", i, ticks), rich(), want, delay(i, ticks, 10))
		}
	}
}

// P11.3, R2, R7: Replenish: its codes, in their order, in each state, of each limit and number of ticks, at any tick; who waits, also for its release, has another deadline, too.
func TestReplenish(t *testing.T) {
	for _, state := range states() {
		for _, limit := range telling() {
			for _, ticks := range telling() {
				for _, now := range telling() {
					one := full(state, api.OnPeriod)
					one.Suspended = now&2 == 0
					want, code := one, api.NoError
					switch {
					case ticks < 1 || ticks > 4096:
						code = api.InvalidParam
					case limit == 0 || state == api.Dormant:
						code = api.NoAction
					default:
						want.Due = now + ticks
					}
					got, gotCode := times.Replenish(conf(7, limit), api.Part{Next: 5, Procs: []api.Proc{one}}, 0, ticks, now)
					if gotCode != code || got.Procs[0] != want || got.Next != 5 {
						t.Fatal(state, limit, ticks, now, got, gotCode)
					}
				}
			}
		}
	}
	got, code := times.Replenish(conf(0, 1), api.Part{Procs: []api.Proc{{State: api.Ready}}}, 0, 2, most)
	if code != api.NoError || got.Procs[0].Due != least+1 {
		t.Error("does not wrap around", got, code)
	}
}

// P11.3: Replenish: one of many, by its own limit; with InvalidParam or NoAction all is as it was.
func TestReplenishOneOfMany(t *testing.T) {
	for i, one := range several() {
		for n := range several() {
			for _, ticks := range []int{0, 1, 4096, 4097} {
				c := configured(len(several()))
				c.Procs[n].Limit = 0
				want := answer{P: rich(), Code: api.NoError}
				switch {
				case ticks < 1 || ticks > 4096:
					want.Code = api.InvalidParam
				case i == n || one.State == api.Dormant:
					want.Code = api.NoAction
				default:
					want.P.Procs[i].Due = 10 + ticks
				}
				check(t, fmt.Sprint("replenish ", i, n, ticks), rich(), want, replenish(c, i, ticks, 10))
			}
		}
	}
}

// P11.3, R2: a process that is not there, of the partition or of what is configured where that is told, comes ahead of all else, and all is as it was.
func TestNotThere(t *testing.T) {
	number := len(several())
	for _, n := range []int{0, 1, number - 1, number, number + 3} {
		c := configured(n)
		for k := range c.Procs {
			c.Procs[k].Period, c.Procs[k].Limit = k%2, k%2
		}
		for _, i := range []int{least, least + 1, -number, -1, 0, 1, 5, number - 1, number, number + 1, number + 4, 1 << 8, 1<<32 + 5, most - 1, most} {
			inPart, inConf := i >= 0 && i < number, i >= 0 && i < n
			not := answer{P: rich(), Code: api.InvalidParam}
			if !inPart || !inConf {
				check(t, fmt.Sprint("period ", i, n), rich(), not, period(c, i))
				check(t, fmt.Sprint("replenish ", i, n), rich(), not, replenish(c, i, 1, 10))
			} else if _, code := times.Period(c, rich(), i); code == api.InvalidParam {
				t.Error("period", i, n)
			} else if _, code := times.Replenish(c, rich(), i, 1, 10); code == api.InvalidParam {
				t.Error("replenish", i, n)
			}
			if _, code := times.Delay(rich(), i, 1, 10); !inPart {
				check(t, fmt.Sprint("delay ", i), rich(), not, delay(i, 1, 10))
				check(t, fmt.Sprint("delay by nothing ", i), rich(), not, delay(i, 0, 10))
			} else if code == api.InvalidParam {
				t.Error("delay", i)
			}
		}
	}
}

// P11.4: a deadline is told once, at the first tick that is asked about from it on, whatever ticks these are.
func TestToldOnce(t *testing.T) {
	for step := 1; step < 9; step++ {
		p := api.Part{}
		for i := range 40 {
			p.Procs = append(p.Procs, racer(api.Ready, api.NoKind, i*7%41-1))
		}
		count, dues := make([]int, 40), p.Procs
		for now := -3; now < 60; now += step {
			l, q := times.Late(p, now)
			for _, i := range l {
				count[i]++
				if due := dues[i].Due; due < 0 || due > now || due <= now-step && now-step >= 0 {
					t.Error(step, i, due, now)
				}
			}
			p = q
		}
		for i, n := range count {
			if dues[i].Due >= 0 && n != 1 || dues[i].Due < 0 && n != 0 {
				t.Error(step, i, n)
			}
		}
	}
}

// P11.4: who got another deadline is told that one, too.
func TestToldAfterReplenish(t *testing.T) {
	c := conf(0, 5)
	l, p := times.Late(api.Part{Procs: []api.Proc{racer(api.Ready, api.NoKind, 5)}}, 6)
	p, code := times.Replenish(c, p, 0, 3, 6)
	none, p := times.Late(p, 8)
	again, p := times.Late(p, 9)
	once, _ := times.Late(p, most)
	if len(l) != 1 || code != api.NoError || len(none) != 0 || len(again) != 1 || len(once) != 0 {
		t.Error(l, code, none, again, once)
	}
}

// P11.4: who waits up to a tick goes on at the first Wake from then on, and not ahead of it, once.
func TestWokenAtFirstWake(t *testing.T) {
	for step := 1; step < 9; step++ {
		p := api.Part{}
		for i := range 40 {
			p.Procs = append(p.Procs, sleeper(kinds()[i%len(kinds())], i*7%41-1))
		}
		first := p.Procs
		for now := -3; now < 60; now += step {
			q := times.Wake(configured(40), p, now)
			for i, one := range q.Procs {
				until := first[i].Until
				if is := until >= 0 && until <= now; is != (one.State == api.Ready) {
					t.Error(step, i, until, now, one)
				}
				if p.Procs[i].State == api.Ready && p.Procs[i] != one {
					t.Error("goes on twice", step, i, now)
				}
			}
			p = q
		}
	}
}

// P11.1, P11.3: a process of a period is released period by period, also where it is woken late, and its deadline counts from where it goes on.
func TestReleases(t *testing.T) {
	c := conf(10, 4)
	p, _ := procs.Start(c, api.Part{Procs: procs.New(c)}, 0, 0)
	for _, x := range []struct{ now, due, next int }{{10, 14, 20}, {23, 27, 30}, {30, 34, 40}, {55, 59, 50}, {56, 60, 60}} {
		p, _ = times.Period(c, p, 0)
		if p.Procs[0].Due != -1 {
			t.Error(x, p)
		}
		if l, _ := times.Late(p, most); len(l) != 0 {
			t.Error(x, l)
		}
		p = times.Wake(c, p, x.now)
		if one := p.Procs[0]; one.State != api.Ready || one.Due != x.due || one.Next != x.next || one.Call != api.CallPeriod {
			t.Error(x, one)
		}
	}
}

// R3: lists of a partition that are one and the same are each the answer's own, in each call, whatever it comes to.
func TestOneListInAllPlaces(t *testing.T) {
	numbers, waiting := []int{1, 2, 3}, waits(0, 1, 2)
	for _, state := range states() {
		for _, kind := range []int{api.OnTime, api.OnPeriod, api.OnSema} {
			p := api.Part{
				Memory: numbers, Given: numbers, Procs: []api.Proc{full(state, kind)}, Latch: api.Latch{Lines: numbers},
				Boards: []api.Board{{L: waiting}, {L: waiting}}, Buffers: []api.Buffer{{Values: numbers, L: waiting}, {Values: numbers, L: waiting}},
				Semas: []api.Sema{{L: waiting}, {L: waiting}}, Events: []api.Event{{L: waiting}, {L: waiting}},
				Queues: []api.Queue{{Values: numbers}, {Values: numbers}},
			}
			was := text(p)
			for what, do := range calls(configured(1), 0) {
				if got := do(p); shared(places(got)) || text(p) != was {
					t.Error(what, state, kind)
				}
			}
		}
	}
}

// calls are all of the package's, about a process.
func calls(c api.PartConf, i int) map[string]call {
	return map[string]call{
		"wake": wake(c, 10), "late": late(10), "period": period(c, i), "delay": delay(i, 5, 10),
		"delay by nothing": delay(i, 0, 10), "replenish": replenish(c, i, 5, 10),
	}
}

// P11.3, R3: each call about each process touches no other one, and of what is configured nothing.
func TestOthersStay(t *testing.T) {
	c := configured(len(several()))
	c.Procs = room(api.ProcConf{Prio: 99}, c.Procs...)
	was, wasMemory := text(c), memory(c)
	for i := range several() {
		for what, do := range calls(c, i) {
			got := do(rich())
			if what == "wake" || what == "late" {
				continue
			}
			for j, one := range several() {
				if j != i && got.P.Procs[j] != one {
					t.Error(what, i, j, got.P.Procs[j])
				}
			}
			spoil(got)
		}
	}
	if text(c) != was || memory(c) != wasMemory {
		t.Error("what is configured is another one", c)
	}
}

// P1, R1, R3: any numbers, lists and configurations are answered.
func TestWrongInputs(t *testing.T) {
	strange := append(partsOfLittle(), rich, func() api.Part { return with(most, full(least, least), full(most, most)) })
	confs := []api.PartConf{{}, {Procs: []api.ProcConf{}}, configured(1), configured(100), conf(least, least), conf(most, most)}
	for k, part := range strange {
		for n, c := range confs {
			for _, number := range []int{least, -1, 0, 1, 10, most} {
				p := part()
				what := fmt.Sprint(k, " ", n, " ", number)
				check(t, "wake "+what, part(), woken(c, part(), number), wake(c, number))
				check(t, "late "+what, part(), told(part(), number), late(number))
				for _, i := range telling() {
					for _, other := range telling() {
						times.Delay(p, i, number, other)
						times.Replenish(c, p, i, other, number)
					}
					times.Period(c, p, i)
				}
				if text(p) != text(part()) {
					t.Error(what, "what was handed in is another one")
				}
			}
		}
	}
}

// P1: very many processes, who all go on or are late at one tick, are done with soon.
func TestVeryManyEnd(t *testing.T) {
	const n = 1 << 16
	for _, kind := range []int{api.OnTime, api.OnPeriod, api.OnSema} {
		p := api.Part{Procs: make([]api.Proc, n), Semas: []api.Sema{{L: waits(0, n-1, n, n/2)}}}
		for i := range p.Procs {
			p.Procs[i] = sleeper(kind, 10)
		}
		got := times.Wake(configured(n), p, 10)
		if got.Next != n || got.Procs[n-1].State != api.Ready || got.Procs[n-1].Since != n-1 {
			t.Error(kind, got.Next, got.Procs[n-1])
		}
		l, got := times.Late(got, most)
		if len(l) != n || l[n-1] != n-1 || got.Procs[n-1].Due != -1 {
			t.Error(kind, len(l))
		}
		if _, code := times.Delay(p, n-1, 5, 5); code != api.InvalidMode {
			t.Error(kind, code)
		}
	}
}
