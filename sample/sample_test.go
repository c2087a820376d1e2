package sample_test

import (
	"math"
	"testing"

	"quarterdeck/api"
	"quarterdeck/sample"
)

const (
	least = math.MinInt
	most  = math.MaxInt
)

// telling are numbers around codes and 0, some that differ above 32 bits, some around half of the greatest, and the least and the greatest.
func telling() []int {
	return []int{
		least, least + 1, least / 2, -1 << 32, -3, -2, -1, 0, 1, 2, 3, 10,
		api.Blocked, 1<<32 - 1, 1 << 32, 1<<32 + 1, api.MaxTick, most/2 + 1, most - 1, most,
	}
}

// samples are ports of all telling numbers, with a message and without one: the latter also such as no Put answers.
func samples() []api.Sample {
	var all []api.Sample
	for _, value := range telling() {
		for _, at := range telling() {
			all = append(all, api.Sample{Is: true, Value: value, At: at}, api.Sample{Value: value, At: at})
		}
	}
	return all
}

// some are fewer ports than samples, for what is done with two of them.
func some() []api.Sample {
	var all []api.Sample
	for _, number := range telling() {
		for _, is := range []bool{true, false} {
			all = append(all, api.Sample{Is: is, Value: number, At: ^number}, api.Sample{Is: is, Value: 7, At: number}, api.Sample{Is: is, Value: number, At: 8})
		}
	}
	return all
}

// got goes by the chapter's words, and tells codes by their numbers.
func got(s api.Sample, refresh, now int) (int, int) {
	if !s.Is {
		return 2, 0
	}
	if end := s.At + refresh; now <= end {
		return 0, s.Value
	}
	return 1, s.Value
}

func checkGet(t *testing.T, s api.Sample, refresh, now int) {
	t.Helper()
	was := s
	wantCode, wantValue := got(s, refresh, now)
	for range 2 {
		if code, value := sample.Get(s, refresh, now); code != wantCode || value != wantValue {
			t.Fatal(s, refresh, now, code, value)
		}
	}
	if s != was {
		t.Fatal(s, was)
	}
}

// P17.1: the chapter's example: put 5 at 10: Get with refresh 3 at 13: NoError, 5; at 14: NoAction, 5.
func TestExample(t *testing.T) {
	s := sample.Put(api.Sample{}, 5, 10)
	if code, value := sample.Get(s, 3, 13); code != 0 || value != 5 {
		t.Error(code, value)
	}
	if code, value := sample.Get(s, 3, 14); code != 1 || value != 5 {
		t.Error(code, value)
	}
}

// P17.1: a port to which a message comes Is, with that Value, At now, whatever it was.
func TestPut(t *testing.T) {
	for _, c := range []struct {
		what       string
		s          api.Sample
		value, now int
	}{
		{"noughts", api.Sample{}, 5, 10},
		{"noughts, and 0 at 0", api.Sample{}, 0, 0},
		{"one without a message, though with numbers", api.Sample{Value: 8, At: 9}, 5, 10},
		{"one without a message, with the same numbers", api.Sample{Value: 5, At: 10}, 5, 10},
		{"one with a message", api.Sample{Is: true, Value: 8, At: 9}, 5, 10},
		{"one with a message, and 0 at 0", api.Sample{Is: true, Value: 8, At: 9}, 0, 0},
		{"one with the same message", api.Sample{Is: true, Value: 5, At: 10}, 5, 10},
		{"one with that value, but earlier", api.Sample{Is: true, Value: 5, At: 9}, 5, 10},
		{"one with another value at that time", api.Sample{Is: true, Value: 6, At: 10}, 5, 10},
		{"one with a later message", api.Sample{Is: true, Value: 8, At: 90}, 5, 10},
		{"negative numbers", api.Sample{Is: true, Value: 8, At: 9}, -5, -10},
		{"the least and the greatest", api.Sample{Is: true, Value: most, At: least}, least, most},
	} {
		if s := sample.Put(c.s, c.value, c.now); s != (api.Sample{Is: true, Value: c.value, At: c.now}) {
			t.Error(c.what, s)
		}
	}
}

// P17.1, R3, R5: all ports, to which messages of telling numbers come.
func TestPutIntoAllPorts(t *testing.T) {
	for _, s := range samples() {
		was := s
		for _, value := range telling() {
			for _, now := range telling() {
				want := api.Sample{Is: true, Value: value, At: now}
				if one, other := sample.Put(s, value, now), sample.Put(s, value, now); one != want || other != want {
					t.Fatal(s, value, now, one, other)
				}
			}
		}
		if s != was {
			t.Fatal(s, was)
		}
	}
}

// P17.1: of a port without a message, NotAvailable and 0 are answered, whatever else stands in it.
func TestGetOfNone(t *testing.T) {
	for _, s := range samples() {
		s.Is = false
		for _, refresh := range telling() {
			for _, now := range []int{least, s.At - 1, s.At, s.At + 1, s.At + refresh, s.At + refresh + 1, most} {
				if code, value := sample.Get(s, refresh, now); code != api.NotAvailable || value != 0 {
					t.Fatal(s, refresh, now, code, value)
				}
			}
		}
	}
}

// P17.1: a message is read with NoError till At and refresh together, that tick itself too, and with NoAction from the next one on.
func TestGetByAge(t *testing.T) {
	for _, c := range []struct {
		what             string
		at, refresh, now int
		code             int
	}{
		{"far below At", 10, 3, -100, api.NoError},
		{"just below At", 10, 3, 9, api.NoError},
		{"at At", 10, 3, 10, api.NoError},
		{"above At", 10, 3, 11, api.NoError},
		{"one below both together", 10, 3, 12, api.NoError},
		{"at both together", 10, 3, 13, api.NoError},
		{"one above both together", 10, 3, 14, api.NoAction},
		{"far above both together", 10, 3, 1000, api.NoAction},
		{"refresh 0, below At", 10, 0, 9, api.NoError},
		{"refresh 0, at At", 10, 0, 10, api.NoError},
		{"refresh 0, above At", 10, 0, 11, api.NoAction},
		{"all 0", 0, 0, 0, api.NoError},
		{"At and refresh 0, above", 0, 0, 1, api.NoAction},
		{"At and refresh 0, below", 0, 0, -1, api.NoError},
		{"At 0, at refresh", 0, 4, 4, api.NoError},
		{"At 0, above refresh", 0, 4, 5, api.NoAction},
		{"refresh below 0, at At", 10, -1, 10, api.NoAction},
		{"refresh below 0, at both together", 10, -1, 9, api.NoError},
		{"refresh below 0, far below", 10, -20, -10, api.NoError},
		{"refresh below 0, one above both together", 10, -20, -9, api.NoAction},
		{"At below 0, at both together", -10, 3, -7, api.NoError},
		{"At below 0, one above both together", -10, 3, -6, api.NoAction},
		{"both together just the greatest", most - 3, 3, most, api.NoError},
		{"both together one below the greatest", most - 3, 2, most, api.NoAction},
		{"refresh the greatest, At 0", 0, most, most, api.NoError},
		{"refresh the greatest, At -1", -1, most, most, api.NoAction},
		{"refresh the least, At 0, at the least", 0, least, least, api.NoError},
		{"refresh the least, At 0, above the least", 0, least, least + 1, api.NoAction},
		{"the least and the greatest", least, most, -1, api.NoError},
		{"the least and the greatest, one above", least, most, 0, api.NoAction},
		{"far apart above 32 bits", 1 << 32, 5, 6, api.NoError},
		{"now far above, alike in 32 bits", 10, 3, 1<<32 + 10, api.NoAction},
	} {
		for _, value := range []int{5, 0, -5, least, most} {
			if code, got := sample.Get(api.Sample{Is: true, Value: value, At: c.at}, c.refresh, c.now); code != c.code || got != value {
				t.Error(c.what, value, code, got)
			}
		}
	}
}

// P17.1, R7: At and refresh together wrap around, and it is by what they come to that a message is too old.
func TestGetWrapsAround(t *testing.T) {
	for _, c := range []struct {
		what             string
		at, refresh, now int
		code             int
	}{
		{"one above the greatest is the least", most, 1, least, api.NoError},
		{"one above the greatest, and now above the least", most, 1, least + 1, api.NoAction},
		{"one above the greatest, and now the greatest", most, 1, most, api.NoAction},
		{"the greatest twice is -2", most, most, -2, api.NoError},
		{"the greatest twice, and now -1", most, most, -1, api.NoAction},
		{"one below the least is the greatest", least, -1, most, api.NoError},
		{"the least twice is 0", least, least, 0, api.NoError},
		{"the least twice, and now 1", least, least, 1, api.NoAction},
	} {
		if code, value := sample.Get(api.Sample{Is: true, Value: 5, At: c.at}, c.refresh, c.now); code != c.code || value != 5 {
			t.Error(c.what, code, value)
		}
	}
}

// P17.1, R3, R5, R7: all ports, read with telling refreshes at telling times, and around the one at which a message grows too old.
func TestGetOfAllPorts(t *testing.T) {
	for _, s := range samples() {
		for _, refresh := range telling() {
			for _, now := range telling() {
				checkGet(t, s, refresh, now)
			}
			for _, now := range []int{s.At - 1, s.At, s.At + 1, s.At + refresh - 1, s.At + refresh, s.At + refresh + 1} {
				checkGet(t, s, refresh, now)
			}
		}
	}
}

// P17.2: a port with a message is carried whole, with its age as it was; of one without, nothing is: the other one stays whole.
func TestCarry(t *testing.T) {
	message := api.Sample{Is: true, Value: 5, At: 10}
	for _, c := range []struct {
		what           string
		from, to, want api.Sample
	}{
		{"to one without", message, api.Sample{}, message},
		{"to one without, though with numbers", message, api.Sample{Value: 8, At: 9}, message},
		{"to one without, with the same numbers", message, api.Sample{Value: 5, At: 10}, message},
		{"to an older one", message, api.Sample{Is: true, Value: 8, At: 9}, message},
		{"to a later one", message, api.Sample{Is: true, Value: 8, At: 11}, message},
		{"to one of that value, but older", message, api.Sample{Is: true, Value: 5, At: 9}, message},
		{"to one of that value, but later", message, api.Sample{Is: true, Value: 5, At: 11}, message},
		{"to one of another value at that time", message, api.Sample{Is: true, Value: 6, At: 10}, message},
		{"to the same one", message, message, message},
		{"0 at 0", api.Sample{Is: true}, message, api.Sample{Is: true}},
		{"0 at 0, to one without", api.Sample{Is: true}, api.Sample{Value: 8, At: 9}, api.Sample{Is: true}},
		{"none", api.Sample{}, message, message},
		{"none, though with numbers", api.Sample{Value: 8, At: 90}, message, message},
		{"none, with the same numbers", api.Sample{Value: 5, At: 10}, message, message},
		{"none, to 0 at 0", api.Sample{Value: 8, At: 9}, api.Sample{Is: true}, api.Sample{Is: true}},
		{"none to none", api.Sample{}, api.Sample{}, api.Sample{}},
		{"none to none with numbers", api.Sample{}, api.Sample{Value: 8, At: 9}, api.Sample{Value: 8, At: 9}},
		{"none with numbers to none", api.Sample{Value: 8, At: 9}, api.Sample{}, api.Sample{}},
		{"none with numbers to none with others", api.Sample{Value: 8, At: 9}, api.Sample{Value: 3, At: 4}, api.Sample{Value: 3, At: 4}},
	} {
		if s := sample.Carry(c.from, c.to); s != c.want {
			t.Error(c.what, s)
		}
	}
}

// P17.2, R3, R5: from all of some ports to all of them.
func TestCarryOfAllPorts(t *testing.T) {
	for _, from := range some() {
		for _, to := range some() {
			want, wasFrom, wasTo := to, from, to
			if from.Is {
				want = from
			}
			if one, other := sample.Carry(from, to), sample.Carry(from, to); one != want || other != want {
				t.Fatal(from, to, one, other)
			}
			if from != wasFrom || to != wasTo {
				t.Fatal(from, to, wasFrom, wasTo)
			}
		}
	}
}

// P17.1, P17.2: a message is carried as often as one likes: neither port is another one by it, and it is as old in each.
func TestCarryTwice(t *testing.T) {
	for _, from := range some() {
		for _, to := range some() {
			once := sample.Carry(from, to)
			if twice := sample.Carry(from, once); twice != once {
				t.Fatal(from, to, once, twice)
			}
			if back := sample.Carry(once, from); from.Is && back != from {
				t.Fatal(from, to, once, back)
			}
		}
	}
}

// P17.3: a message that was put at a time and is carried later grows too old by when it was put.
func TestAgeIsFromWhenItWasPut(t *testing.T) {
	for _, put := range []int{-50, 0, 10} {
		for carried := put; carried < put+12; carried++ {
			there := sample.Carry(sample.Put(api.Sample{}, 5, put), sample.Put(api.Sample{}, 6, carried))
			for now := carried; now < put+20; now++ {
				want := api.NoError
				if now > put+7 {
					want = api.NoAction
				}
				if code, value := sample.Get(there, 7, now); code != want || value != 5 {
					t.Fatal(put, carried, now, code, value)
				}
			}
		}
	}
}

// message is one that was put, and when; times are of the run alone.
type message struct{ value, at int }

// run is ports and what came to them, told by what was done alone: the last message of each, or none.
type run struct {
	ports []api.Sample
	last  []*message
	// These are how often each code came about, so that a run in which nothing does is seen.
	codes [3]int
}

func start(n int) *run {
	return &run{ports: make([]api.Sample, n), last: make([]*message, n)}
}

func (r *run) put(port, value, now int) {
	r.ports[port] = sample.Put(r.ports[port], value, now)
	r.last[port] = &message{value, now}
}

func (r *run) carry(from, to int) {
	r.ports[to] = sample.Carry(r.ports[from], r.ports[to])
	if r.last[from] != nil {
		r.last[to] = r.last[from]
	}
}

// fits tells whether who reads this port reads the last message that came, as old as it was when it was put.
func (r *run) fits(port, refresh, now int) bool {
	code, value := sample.Get(r.ports[port], refresh, now)
	r.codes[code]++
	m := r.last[port]
	switch {
	case m == nil:
		return code == api.NotAvailable && value == 0
	case now-m.at > refresh:
		return code == api.NoAction && value == m.value
	}
	return code == api.NoError && value == m.value
}

// P17.3: so it is whatever is put and carried, one deed after the other, among ports of which none has a message at first.
func TestDeedAfterDeed(t *testing.T) {
	var codes [3]int
	for seed := range 30 {
		r, x := start(5), seed+1
		for turn := range 3000 {
			x = (x*1103515245 + 12345) & (1<<31 - 1)
			from, to := x>>8%5, x>>12%5
			switch deed := x >> 16 % 16; {
			case turn < 40 && deed < 14:
				r.carry(4-turn%2, to)
			case deed < 4:
				r.put(to, turn*7-x>>20%100, turn)
			case deed < 10:
				r.carry(from, to)
			}
			for port := range r.ports {
				if !r.fits(port, x>>18%12, turn) {
					t.Fatal(seed, turn, port, r.ports[port])
				}
			}
		}
		for code, n := range r.codes {
			codes[code] += n
		}
	}
	for code, n := range codes {
		if n < 100 {
			t.Error("too few of code", code, codes)
		}
	}
}

// P17.3: one who writes at every third tick and one who reads, with a port each: where windows begin the message is carried, and what is written in between comes no sooner.
func TestBetweenWindows(t *testing.T) {
	r := start(2)
	for now := range 400 {
		if now%10 == 5 {
			r.carry(0, 1)
		}
		if now%3 == 0 {
			r.put(0, 1000+now, now)
		}
		if !r.fits(1, 6, now) {
			t.Fatal(now, r.ports)
		}
	}
	if r.codes != [3]int{200, 195, 5} {
		t.Error(r.codes)
	}
}

// P17.3: ports that came of one port are apart: what comes to one changes no other.
func TestPortsAreApart(t *testing.T) {
	one := sample.Put(api.Sample{}, 5, 10)
	other := sample.Carry(one, api.Sample{})
	later := sample.Put(one, 6, 11)
	if one != (api.Sample{Is: true, Value: 5, At: 10}) || other != one || later != (api.Sample{Is: true, Value: 6, At: 11}) {
		t.Error(one, other, later)
	}
	if sample.Carry(later, other) != later || other != one {
		t.Error(other, later)
	}
}

// P1: very many Puts, Carries and Gets end, and the last message is read then.
func TestVeryMany(t *testing.T) {
	var s, far api.Sample
	for n := range 1 << 20 {
		s = sample.Put(s, n, n)
		far = sample.Carry(s, far)
		if code, value := sample.Get(far, 0, n); code != api.NoError || value != n {
			t.Fatal(n, code, value)
		}
	}
	if want := (api.Sample{Is: true, Value: 1<<20 - 1, At: 1<<20 - 1}); s != want || far != want {
		t.Error(s, far)
	}
}
