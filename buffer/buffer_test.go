package buffer_test

import (
	"math"
	"slices"
	"testing"

	"quarterdeck/api"
	"quarterdeck/buffer"
)

const (
	least = math.MinInt
	most  = math.MaxInt
)

// telling are numbers around codes and 0, some that differ above 32 bits, and the least and the greatest.
func telling() []int {
	return []int{least, least + 1, -1 << 32, -2, -1, 0, 1, 2, api.Blocked, 1 << 32, 1<<32 + 1, most - 1, most}
}

// waiting are those who wait with some priorities; all other fields are set, and of each other ones.
func waiting(prios ...int) []api.Wait {
	var l []api.Wait
	for i, prio := range prios {
		l = append(l, api.Wait{Proc: 100 + i, Prio: prio, Value: 200 + i})
	}
	return l
}

// lists are of nobody, one and several who wait, in and out of the order of priorities, of the same process, and of the least and the greatest numbers.
func lists() [][]api.Wait {
	return [][]api.Wait{
		nil,
		{},
		{{}},
		waiting(5),
		waiting(9, 5, 1),
		waiting(1, 5, 9),
		waiting(5, 5, 5, 5),
		waiting(3, 9, -4, 9, 0, 15, 2),
		{{Proc: 4, Prio: 1, Value: 9}, {Proc: 4, Prio: 1, Value: 9}, {Proc: 4, Prio: 2, Value: 8}},
		{{Proc: -1, Prio: -2, Value: -3}, {Proc: least, Prio: most, Value: least}, {Proc: most, Prio: least, Value: most}},
	}
}

// held are values of a buffer: none, one, several, the same ones, and the least and the greatest.
func held() [][]int {
	return [][]int{nil, {}, {0}, {7}, {7, 8}, {8, 7, 9}, {6, 6, 6}, {least, 0, most, -1}, {1, 2, 3, 4, 5, 6, 7, 8}}
}

// depths are those around a number of values, 0 and less, and the least and the greatest.
func depths(n int) []int {
	return []int{least, -1, 0, 1, n - 1, n, n + 1, n + 5, n + 1<<32, n - 1<<32, most}
}

// buffers are all of these lists with all of these values and depths, ranked and not: also such as Send and Take never answer.
func buffers() []api.Buffer {
	var all []api.Buffer
	for _, l := range lists() {
		for _, values := range held() {
			for _, depth := range depths(len(values)) {
				all = append(all, api.Buffer{Depth: depth, Values: values, L: l}, api.Buffer{Depth: depth, Ranked: true, Values: values, L: l})
			}
		}
	}
	return all
}

// comers are some who come: of greater, the same and lesser priorities than those who wait, one who waits already, and of telling numbers.
func comers() []api.Wait {
	all := []api.Wait{{}, {Proc: 2, Prio: 15, Value: 7}, {Proc: 2, Prio: 5, Value: 7}, {Proc: 100, Prio: 5, Value: 200}, {Proc: 4, Prio: 1, Value: 9}}
	for _, number := range telling() {
		all = append(all, api.Wait{Proc: number, Prio: ^number, Value: number}, api.Wait{Proc: 3, Prio: number, Value: ^number})
	}
	return all
}

// answer is all that a call may answer.
type answer struct {
	b           api.Buffer
	code, value int
	wakes       []api.Wake
}

// alike holds buffers against each other; a list without elements may be nil or empty.
func alike(b, o api.Buffer) bool {
	return b.Depth == o.Depth && b.Ranked == o.Ranked && slices.Equal(b.Values, o.Values) && slices.Equal(b.L, o.L)
}

func (a answer) same(o answer) bool {
	return alike(a.b, o.b) && a.code == o.code && a.value == o.value && slices.Equal(a.wakes, o.wakes)
}

// own is a buffer with lists of its own, with no room behind their ends.
func own(b api.Buffer) api.Buffer {
	b.Values, b.L = slices.Clip(slices.Clone(b.Values)), slices.Clip(slices.Clone(b.L))
	return b
}

// added is a list with one more, by the words of waiters' chapter.
func added(l []api.Wait, w api.Wait, ranked bool) []api.Wait {
	place := len(l)
	for i := len(l) - 1; ranked && i >= 0; i-- {
		if l[i].Prio < w.Prio {
			place = i
		}
	}
	return slices.Insert(slices.Clone(l), place, w)
}

// sent, taken and waited go by the chapter's words.
func sent(b api.Buffer, w api.Wait, may bool) answer {
	b = own(b)
	if len(b.L) > 0 && len(b.Values) == 0 {
		first := b.L[0]
		b.L = b.L[1:]
		return answer{b: b, wakes: []api.Wake{{Proc: first.Proc, Code: 0, Value: w.Value}}}
	}
	if len(b.Values) < b.Depth {
		b.Values = append(b.Values, w.Value)
		return answer{b: b}
	}
	return waited(b, w, may)
}

func taken(b api.Buffer, w api.Wait, may bool) answer {
	b = own(b)
	if len(b.Values) == 0 {
		return waited(b, w, may)
	}
	a := answer{value: b.Values[0]}
	b.Values = b.Values[1:]
	if len(b.L) > 0 {
		b.Values = append(b.Values, b.L[0].Value)
		a.wakes = []api.Wake{{Proc: b.L[0].Proc, Code: 0, Value: 0}}
		b.L = b.L[1:]
	}
	a.b = b
	return a
}

func waited(b api.Buffer, w api.Wait, may bool) answer {
	if !may {
		return answer{b: b, code: 2}
	}
	b.L = added(b.L, w, b.Ranked)
	return answer{b: b, code: 6}
}

// spoil writes over an answer's lists, and over the room behind their ends.
func spoil(a answer) {
	spoilBuffer(a.b)
	for i := range a.wakes[:cap(a.wakes)] {
		a.wakes[:cap(a.wakes)][i] = api.Wake{Proc: -77, Code: -78, Value: -79}
	}
}

func spoilBuffer(b api.Buffer) {
	for i := range b.Values[:cap(b.Values)] {
		b.Values[:cap(b.Values)][i] = -76
	}
	for i := range b.L[:cap(b.L)] {
		b.L[:cap(b.L)][i] = api.Wait{Proc: -77, Prio: -78, Value: -79}
	}
}

// asHandedIn are a buffer with no room behind its lists' ends, and one with room in which others of the caller's lie.
func asHandedIn(b api.Buffer) []api.Buffer {
	roomy := b
	roomy.Values = slices.Concat(b.Values, []int{most, -55, 0, 56})[:len(b.Values)]
	roomy.L = slices.Concat(b.L, []api.Wait{{Proc: 90, Prio: 91, Value: 92}, {Proc: 93, Prio: least, Value: 95}, {Proc: 96}})[:len(b.L)]
	return []api.Buffer{own(b), roomy}
}

// whole is a buffer with all that lies in its lists and behind their ends.
func whole(b api.Buffer) api.Buffer {
	b.Values, b.L = b.Values[:cap(b.Values)], b.L[:cap(b.L)]
	return b
}

// check holds an answer against what is wanted, and what is handed in and answered against the rules R3 and R5.
func check(t *testing.T, what string, b api.Buffer, want answer, do func(api.Buffer) answer) {
	t.Helper()
	for _, given := range asHandedIn(b) {
		was := own(whole(given))
		stays := func() bool { return alike(whole(given), was) }
		got := do(given)
		if !got.same(want) {
			t.Fatalf("%s, of %v: %v, not %v", what, b, got, want)
		}
		if !stays() {
			t.Fatalf("%s, of %v: what was handed in is another one", what, b)
		}
		again := do(given)
		spoil(got)
		if !stays() {
			t.Fatalf("%s, of %v: what was handed in hangs on the answer", what, b)
		}
		if !again.same(want) || !do(given).same(want) {
			t.Fatalf("%s, of %v: another answer", what, b)
		}
		spoilBuffer(given)
		if !again.same(want) {
			t.Fatalf("%s, of %v: the answer hangs on what was handed in", what, b)
		}
	}
}

func send(b api.Buffer, w api.Wait, may bool) answer {
	b, code, wakes := buffer.Send(b, w, may)
	return answer{b: b, code: code, wakes: wakes}
}

func take(b api.Buffer, w api.Wait, may bool) answer {
	b, code, value, wakes := buffer.Take(b, w, may)
	return answer{b: b, code: code, value: value, wakes: wakes}
}

func checkBoth(t *testing.T, b api.Buffer, w api.Wait) {
	t.Helper()
	for what, may := range map[string]bool{" that may not wait": false, " that may wait": true} {
		check(t, "Send"+what, b, sent(b, w, may), func(b api.Buffer) answer { return send(b, w, may) })
		check(t, "Take"+what, b, taken(b, w, may), func(b api.Buffer) answer { return take(b, w, may) })
	}
}

// P14.1, P14.2: the chapter's example: Depth 1: Send 5: NoError; Send 6 blocks; Take: 5, and who sent 6 goes on; Take: 6.
func TestExample(t *testing.T) {
	b := api.Buffer{Depth: 1}
	b, code, wakes := buffer.Send(b, api.Wait{Proc: 1, Prio: 2, Value: 5}, true)
	if !alike(b, api.Buffer{Depth: 1, Values: []int{5}}) || code != 0 || len(wakes) != 0 {
		t.Error(b, code, wakes)
	}
	six := api.Wait{Proc: 3, Prio: 4, Value: 6}
	b, code, wakes = buffer.Send(b, six, true)
	if !alike(b, api.Buffer{Depth: 1, Values: []int{5}, L: []api.Wait{six}}) || code != 6 || len(wakes) != 0 {
		t.Error(b, code, wakes)
	}
	b, code, value, wakes := buffer.Take(b, api.Wait{Proc: 7, Prio: 8, Value: 9}, true)
	if !alike(b, api.Buffer{Depth: 1, Values: []int{6}}) || code != 0 || value != 5 || !slices.Equal(wakes, []api.Wake{{Proc: 3}}) {
		t.Error(b, code, value, wakes)
	}
	b, code, value, wakes = buffer.Take(b, api.Wait{Proc: 7, Prio: 8, Value: 9}, true)
	if !alike(b, api.Buffer{Depth: 1}) || code != 0 || value != 6 || len(wakes) != 0 {
		t.Error(b, code, value, wakes)
	}
}

// P14.1: the first one who waits to take goes on with NoError and the value, whatever the depth; the others wait on.
func TestSendToWhoWaitsToTake(t *testing.T) {
	for _, b := range buffers() {
		if len(b.Values) > 0 || len(b.L) == 0 {
			continue
		}
		for _, w := range comers() {
			for _, may := range []bool{false, true} {
				c, code, wakes := buffer.Send(b, w, may)
				if len(c.Values) != 0 || c.Depth != b.Depth || c.Ranked != b.Ranked || !slices.Equal(c.L, b.L[1:]) {
					t.Fatal(b, w, c)
				}
				if code != api.NoError || !slices.Equal(wakes, []api.Wake{{Proc: b.L[0].Proc, Code: api.NoError, Value: w.Value}}) {
					t.Fatal(b, w, code, wakes)
				}
			}
		}
	}
}

// P14.1: where there is room, what is sent stands behind the others, also where some wait to send all the same: they wait on.
func TestSendWhereThereIsRoom(t *testing.T) {
	two := waiting(3, 8)
	for _, c := range []struct {
		depth  int
		values []int
		l      []api.Wait
		want   []int
	}{
		{1, nil, nil, []int{5}},
		{1, []int{}, []api.Wait{}, []int{5}},
		{2, []int{4}, nil, []int{4, 5}},
		{3, []int{9, 4}, nil, []int{9, 4, 5}},
		{8, []int{9, 4}, nil, []int{9, 4, 5}},
		{most, []int{5, 5}, nil, []int{5, 5, 5}},
		{1<<32 + 2, []int{9, 4, 3}, nil, []int{9, 4, 3, 5}},
		{2, []int{4}, two, []int{4, 5}},
		{9, []int{9, 4}, two, []int{9, 4, 5}},
	} {
		for _, ranked := range []bool{false, true} {
			for _, may := range []bool{false, true} {
				b := api.Buffer{Depth: c.depth, Ranked: ranked, Values: c.values, L: c.l}
				got, code, wakes := buffer.Send(b, api.Wait{Proc: 2, Prio: 9, Value: 5}, may)
				want := api.Buffer{Depth: c.depth, Ranked: ranked, Values: c.want, L: c.l}
				if !alike(got, want) || code != api.NoError || len(wakes) != 0 {
					t.Error(b, got, code, wakes)
				}
			}
		}
	}
}

// full are buffers in which there is no room: as many values as Depth, more, and a Depth of 0 and less with nobody who waits to take.
func full() []api.Buffer {
	var all []api.Buffer
	for _, l := range [][]api.Wait{nil, {}, waiting(5), waiting(9, 5, 1), waiting(1, 5, 9), waiting(5, 5)} {
		for _, values := range [][]int{{7}, {7, 8}, {least, 0, most}} {
			for _, depth := range []int{len(values), len(values) - 1, 0, -1, len(values) - 1<<32, least} {
				all = append(all, api.Buffer{Depth: depth, Values: values, L: l})
			}
		}
	}
	for _, depth := range []int{0, -1, -1 << 32, least} {
		all = append(all, api.Buffer{Depth: depth}, api.Buffer{Depth: depth, Values: []int{}, L: []api.Wait{}})
	}
	for _, b := range all {
		b.Ranked = true
		all = append(all, b)
	}
	return all
}

// P14.1: where there is no room, who may not wait is answered NotAvailable, and the buffer is as it was.
func TestSendWhereThereIsNoneByWhoMayNotWait(t *testing.T) {
	for _, b := range full() {
		c, code, wakes := buffer.Send(b, api.Wait{Proc: 2, Prio: 9, Value: 5}, false)
		if !alike(c, b) || code != api.NotAvailable || len(wakes) != 0 {
			t.Error(b, c, code, wakes)
		}
	}
}

// P14.1: where there is no room, who may wait is put behind all, or, if the buffer is ranked, ahead of those of lesser priorities; Blocked.
func TestSendWhereThereIsNoneByWhoMayWait(t *testing.T) {
	for _, b := range full() {
		for _, prio := range []int{least, 0, 1, 5, 7, 9, 12, most} {
			w := api.Wait{Proc: 2, Prio: prio, Value: 5}
			want := b
			want.L = added(b.L, w, b.Ranked)
			c, code, wakes := buffer.Send(b, w, true)
			if !alike(c, want) || code != api.Blocked || len(wakes) != 0 {
				t.Error(b, w, c, code, wakes)
			}
		}
	}
}

// P14.2: the first value is taken, whatever the depth, and nothing else happens where nobody waits.
func TestTakeWhereNobodyWaits(t *testing.T) {
	for _, values := range held() {
		for _, depth := range depths(len(values)) {
			for _, ranked := range []bool{false, true} {
				for _, may := range []bool{false, true} {
					if len(values) == 0 {
						continue
					}
					b := api.Buffer{Depth: depth, Ranked: ranked, Values: values}
					c, code, value, wakes := buffer.Take(b, api.Wait{Proc: 2, Prio: 9, Value: 5}, may)
					want := api.Buffer{Depth: depth, Ranked: ranked, Values: values[1:]}
					if !alike(c, want) || code != api.NoError || value != values[0] || len(wakes) != 0 {
						t.Error(b, c, code, value, wakes)
					}
				}
			}
		}
	}
}

// P14.2: the first one who waits to send goes on with NoError and 0, and its value stands behind the others, whether there is room or not.
func TestTakeWhereSomebodyWaitsToSend(t *testing.T) {
	for _, b := range buffers() {
		if len(b.Values) == 0 || len(b.L) == 0 {
			continue
		}
		want := api.Buffer{Depth: b.Depth, Ranked: b.Ranked, L: b.L[1:]}
		want.Values = append(slices.Clone(b.Values[1:]), b.L[0].Value)
		for _, may := range []bool{false, true} {
			c, code, value, wakes := buffer.Take(b, api.Wait{Proc: 2, Prio: 9, Value: 5}, may)
			if !alike(c, want) || code != api.NoError || value != b.Values[0] || !slices.Equal(wakes, []api.Wake{{Proc: b.L[0].Proc}}) {
				t.Fatal(b, c, code, value, wakes)
			}
		}
	}
}

// P14.2: where there is nothing, who may not wait is answered NotAvailable and 0, and the buffer is as it was.
func TestTakeOfNothingByWhoMayNotWait(t *testing.T) {
	for _, b := range buffers() {
		if len(b.Values) > 0 {
			continue
		}
		c, code, value, wakes := buffer.Take(b, api.Wait{Proc: 2, Prio: 9, Value: 5}, false)
		if !alike(c, b) || code != api.NotAvailable || value != 0 || len(wakes) != 0 {
			t.Fatal(b, c, code, value, wakes)
		}
	}
}

// P14.2: where there is nothing, who may wait is put behind all, or, if the buffer is ranked, ahead of those of lesser priorities; Blocked and 0.
func TestTakeOfNothingByWhoMayWait(t *testing.T) {
	for _, b := range buffers() {
		if len(b.Values) > 0 {
			continue
		}
		for _, w := range comers() {
			want := b
			want.L = added(b.L, w, b.Ranked)
			c, code, value, wakes := buffer.Take(b, w, true)
			if !alike(c, want) || code != api.Blocked || value != 0 || len(wakes) != 0 {
				t.Fatal(b, w, c, code, value, wakes)
			}
		}
	}
}

// P14.1, P14.2: where who comes is put: ranked, ahead of lesser priorities and behind the same ones; else behind all.
func TestWhereOneIsPut(t *testing.T) {
	l := []api.Wait{{Proc: 1, Prio: 9, Value: 11}, {Proc: 2, Prio: 5, Value: 12}, {Proc: 3, Prio: 5, Value: 13}, {Proc: 4, Prio: 1, Value: 14}}
	for _, c := range []struct {
		prio   int
		ranked bool
		place  int
	}{
		{10, true, 0}, {9, true, 1}, {6, true, 1}, {5, true, 3}, {2, true, 3}, {1, true, 4}, {0, true, 4}, {most, true, 0}, {least, true, 4},
		{10, false, 4}, {5, false, 4}, {0, false, 4}, {most, false, 4}, {least, false, 4},
	} {
		w := api.Wait{Proc: 8, Prio: c.prio, Value: 18}
		want := slices.Insert(slices.Clone(l), c.place, w)
		if b, _, _ := buffer.Send(api.Buffer{Depth: 1, Ranked: c.ranked, Values: []int{7}, L: l}, w, true); !slices.Equal(b.L, want) {
			t.Error("Send", c, b.L)
		}
		if b, _, _, _ := buffer.Take(api.Buffer{Depth: 1, Ranked: c.ranked, L: l}, w, true); !slices.Equal(b.L, want) {
			t.Error("Take", c, b.L)
		}
	}
}

// P14.1, P14.2: one who waits already is put there once more, as another one is.
func TestOneWhoWaitsAlready(t *testing.T) {
	w := api.Wait{Proc: 2, Prio: 3, Value: 7}
	empty, filled := api.Buffer{Depth: 1}, api.Buffer{Depth: 1, Values: []int{4}}
	for n := range 5 {
		empty, _, _, _ = buffer.Take(empty, w, true)
		filled, _, _ = buffer.Send(filled, w, true)
		want := slices.Repeat([]api.Wait{w}, n+1)
		if !slices.Equal(empty.L, want) || !slices.Equal(filled.L, want) {
			t.Error(n, empty, filled)
		}
	}
}

// P14.1, P14.2, R3, R5: all buffers, sent to and taken from, by some who may wait, and who may not.
func TestAllBuffersByTheChapter(t *testing.T) {
	few := []api.Wait{{}, {Proc: 2, Prio: 5, Value: 7}, {Proc: least, Prio: most, Value: least}}
	for _, b := range buffers() {
		for _, w := range few {
			checkBoth(t, b, w)
		}
	}
}

// P14.1, P14.2, R3, R5: some buffers, of no values and some, with and without room, by all who come.
func TestAllComersByTheChapter(t *testing.T) {
	for _, l := range lists() {
		for _, values := range [][]int{nil, {7}, {8, 7}} {
			for _, depth := range []int{1, 2, 3} {
				for _, w := range comers() {
					checkBoth(t, api.Buffer{Depth: depth, Values: values, L: l}, w)
					checkBoth(t, api.Buffer{Depth: depth, Ranked: true, Values: values, L: l}, w)
				}
			}
		}
	}
}

// P14.1, P14.2: lists longer than a partition has processes, and more values than a buffer may be configured for.
func TestLongListsByTheChapter(t *testing.T) {
	for n := range 40 {
		l, values := make([]api.Wait, n), make([]int, n)
		for i := range l {
			l[i] = api.Wait{Proc: i % 6, Prio: i * 7 % 16, Value: -i}
			values[i] = i * 3
		}
		for _, depth := range []int{0, n - 1, n, n + 1} {
			for _, ranked := range []bool{false, true} {
				checkBoth(t, api.Buffer{Depth: depth, Ranked: ranked, Values: values, L: l}, api.Wait{Proc: 2, Prio: 5, Value: 7})
				checkBoth(t, api.Buffer{Depth: depth, Ranked: ranked, Values: values}, api.Wait{Proc: 2, Prio: 5, Value: 7})
				checkBoth(t, api.Buffer{Depth: depth, Ranked: ranked, L: l}, api.Wait{Proc: 2, Prio: 5, Value: 7})
			}
		}
	}
}

// P14.3: what is sent is taken in its order, also what those brought who had to wait: first all is sent, then all taken.
func TestWhatIsSentIsTakenInItsOrder(t *testing.T) {
	for depth := 1; depth <= api.MaxDepth; depth++ {
		for n := range 3 * api.MaxDepth {
			b := api.Buffer{Depth: depth}
			for i := range n {
				var code int
				b, code, _ = buffer.Send(b, api.Wait{Proc: i, Prio: i * 5 % 7, Value: 100 - i}, true)
				if code == api.NoError != (i < depth) {
					t.Fatal(depth, n, i, code)
				}
			}
			for i := range n {
				var value int
				var wakes, want []api.Wake
				if i+depth < n {
					want = []api.Wake{{Proc: i + depth}}
				}
				if b, _, value, wakes = buffer.Take(b, api.Wait{Proc: 50}, false); value != 100-i || !slices.Equal(wakes, want) {
					t.Fatal(depth, n, i, value, wakes)
				}
			}
			if _, code, _, _ := buffer.Take(b, api.Wait{Proc: 50}, false); code != api.NotAvailable {
				t.Fatal(depth, n, code)
			}
		}
	}
}

// P14.3: and what is taken by those who had to wait: first all wait to take, then all is sent.
func TestWhoWaitsIsGivenWhatIsSentInItsOrder(t *testing.T) {
	for n := range 10 {
		b := api.Buffer{Depth: 1}
		for i := range n {
			b, _, _, _ = buffer.Take(b, api.Wait{Proc: i, Prio: i * 5 % 7}, true)
		}
		for i := range n {
			var wakes []api.Wake
			if b, _, wakes = buffer.Send(b, api.Wait{Proc: 50, Prio: 9, Value: 100 - i}, false); !slices.Equal(wakes, []api.Wake{{Proc: i, Value: 100 - i}}) {
				t.Fatal(n, i, wakes)
			}
		}
		if len(b.L) != 0 || len(b.Values) != 0 {
			t.Fatal(n, b)
		}
	}
}

// flow is a run of sends and takes: what was sent and not refused, what was taken, and who waits, as told by codes and wakes alone.
type flow struct {
	b          api.Buffer
	sent, got  []int
	toSend     map[int]int
	toTake     map[int]bool
	sends, ask int
}

func (f *flow) send(w api.Wait, may bool) {
	b, code, wakes := buffer.Send(f.b, w, may)
	f.b = b
	if code == api.NotAvailable {
		return
	}
	f.sent = append(f.sent, w.Value)
	if code == api.Blocked {
		f.toSend[w.Proc] = w.Value
		f.sends++
	}
	for _, wake := range wakes {
		if f.toTake[wake.Proc] {
			delete(f.toTake, wake.Proc)
			f.got = append(f.got, wake.Value)
		}
	}
}

func (f *flow) take(w api.Wait, may bool) {
	b, code, value, wakes := buffer.Take(f.b, w, may)
	f.b = b
	if code == api.Blocked {
		f.toTake[w.Proc] = true
		f.ask++
	}
	if code == api.NoError {
		f.got = append(f.got, value)
	}
	for _, wake := range wakes {
		delete(f.toSend, wake.Proc)
	}
}

// waits tells whether those who wait are those of the buffer's list, and wait for what can't be done.
func (f *flow) waits() bool {
	if len(f.b.L) != len(f.toSend)+len(f.toTake) || len(f.b.Values) > f.b.Depth {
		return false
	}
	if len(f.toTake) > 0 && (len(f.b.Values) > 0 || len(f.toSend) > 0) {
		return false
	}
	return len(f.toSend) == 0 || len(f.b.Values) == f.b.Depth
}

// run does many sends and takes, each by a process of its own.
func run(t *testing.T, depth int, ranked bool) *flow {
	t.Helper()
	f := &flow{b: api.Buffer{Depth: depth, Ranked: ranked}, toSend: map[int]int{}, toTake: map[int]bool{}}
	x := depth
	for turn := range 3000 {
		x = (x*1103515245 + 12345) & (1<<31 - 1)
		w := api.Wait{Proc: turn, Prio: x >> 20 % 16, Value: 10*turn + 1}
		// Now more is sent than taken, now less, so that some wait for either.
		if x>>16%8 < 3+turn/100%2*2 {
			f.send(w, x>>12%3 > 0)
		} else {
			f.take(w, x>>12%3 > 0)
		}
		if !f.waits() {
			t.Fatal(depth, ranked, turn, f.b)
		}
	}
	if f.sends < 20 || f.ask < 20 {
		t.Error(depth, ranked, f.sends, f.ask)
	}
	return f
}

// P14.3: so it is whatever is done, one deed after the other: in its order, each once; nobody waits for what could be done.
func TestDeedAfterDeed(t *testing.T) {
	for depth := 1; depth <= api.MaxDepth; depth++ {
		f := run(t, depth, false)
		if len(f.got) > len(f.sent) || !slices.Equal(f.got, f.sent[:len(f.got)]) {
			t.Error(depth, "not in its order")
		}
		if len(f.sent)-len(f.got) != len(f.b.Values)+len(f.toSend) {
			t.Error(depth, "something was lost")
		}
	}
}

// P14.3: ranked, each is still taken once, and nobody waits for what could be done, but the order may be another one.
func TestDeedAfterDeedRanked(t *testing.T) {
	for depth := 1; depth <= api.MaxDepth; depth++ {
		f := run(t, depth, true)
		left := slices.Clone(f.b.Values)
		for _, value := range f.toSend {
			left = append(left, value)
		}
		all := slices.Concat(f.got, left)
		slices.Sort(all)
		if !slices.Equal(all, f.sent) {
			t.Error(depth, "not each once")
		}
		if slices.IsSorted(f.got) {
			t.Error(depth, "the rank told nothing")
		}
	}
}

// R3: buffers that came of one buffer are each their own: what is sent to the one is not sent to the other.
func TestBuffersOfOneBufferAreApart(t *testing.T) {
	base := api.Buffer{Depth: 9}
	for i := range 5 {
		base, _, _ = buffer.Send(base, api.Wait{Value: i}, false)
	}
	one, _, _ := buffer.Send(base, api.Wait{Value: 10}, false)
	other, _, _ := buffer.Send(base, api.Wait{Value: 11}, false)
	less, _, _, _ := buffer.Take(base, api.Wait{}, false)
	more, _, _ := buffer.Send(less, api.Wait{Value: 12}, false)
	less.Values[0] = 13
	for i, c := range []struct {
		b    api.Buffer
		want []int
	}{{base, []int{0, 1, 2, 3, 4}}, {one, []int{0, 1, 2, 3, 4, 10}}, {other, []int{0, 1, 2, 3, 4, 11}}, {less, []int{13, 2, 3, 4}}, {more, []int{1, 2, 3, 4, 12}}} {
		if !slices.Equal(c.b.Values, c.want) {
			t.Error(i, c.b.Values)
		}
	}
}

// P1: very many values and very many who wait are done with soon.
func TestVeryManyEnd(t *testing.T) {
	const n = 1 << 20
	l, values := make([]api.Wait, n), make([]int, n)
	for i := range l {
		l[i], values[i] = api.Wait{Proc: i, Prio: 2 * i, Value: -i}, i+1
	}
	w := api.Wait{Proc: 7, Prio: most, Value: 8}
	b := api.Buffer{Depth: n, Ranked: true, Values: values, L: l}
	if c, code, _ := buffer.Send(b, w, true); code != api.Blocked || len(c.L) != n+1 || c.L[0] != w || !slices.Equal(c.Values, values) {
		t.Error("send")
	}
	if c, _, value, wakes := buffer.Take(b, w, true); value != 1 || len(wakes) != 1 || !slices.Equal(c.L, l[1:]) || len(c.Values) != n || c.Values[n-1] != 0 {
		t.Error("take")
	}
	b.Values = nil
	if c, code, wakes := buffer.Send(b, w, true); code != api.NoError || len(wakes) != 1 || len(c.L) != n-1 || len(c.Values) != 0 {
		t.Error("send to who waits")
	}
}
