package ports_test

import (
	"math"
	"slices"
	"testing"

	"quarterdeck/api"
	"quarterdeck/ports"
)

const (
	least = math.MinInt
	most  = math.MaxInt
)

// telling are numbers around codes and 0, some that differ above 32 bits, and the least and the greatest.
func telling() []int {
	return []int{least, least + 1, -1 << 32, -2, -1, 0, 1, 2, api.Blocked, 1 << 32, 1<<32 + 1, most - 1, most}
}

// held are values of a queue: none, one, several, the same ones, and negative, the least and the greatest.
func held() [][]int {
	return [][]int{nil, {}, {0}, {7}, {-7, 8}, {8, 7, 9}, {6, 6, 6}, {least, 0, most, -1}, {1, 2, 3, 4, 5, 6, 7, 8}}
}

// depths are those around a number of values, 0 and less, and the least and the greatest.
func depths(n int) []int {
	return []int{least, -1 << 32, -1, 0, 1, n - 1, n, n + 1, n + 2, n + 5, n + 1<<32, n - 1<<32, most}
}

// queues are all of these values with all of these depths, and with telling numbers of lost ones: also such as Send and Move never answer.
func queues() []api.Queue {
	var all []api.Queue
	for _, values := range held() {
		for _, depth := range depths(len(values)) {
			for _, lost := range telling() {
				all = append(all, api.Queue{Depth: depth, Values: values, Lost: lost})
			}
		}
	}
	return all
}

// some are fewer queues than these, for what is done with two of them.
func some() []api.Queue {
	var all []api.Queue
	lost := telling()
	for _, values := range held() {
		for i, depth := range depths(len(values)) {
			all = append(all, api.Queue{Depth: depth, Values: values, Lost: lost[(len(values)+i)%len(lost)]})
		}
	}
	return all
}

// alike holds queues against each other; a list without elements may be nil or empty.
func alike(q, o api.Queue) bool {
	return q.Depth == o.Depth && q.Lost == o.Lost && slices.Equal(q.Values, o.Values)
}

// own is a queue with a list of its own, with no room behind its end.
func own(q api.Queue) api.Queue {
	q.Values = slices.Clip(slices.Clone(q.Values))
	return q
}

// answer is all that a call of one queue may answer.
type answer struct {
	q           api.Queue
	code, value int
}

func (a answer) same(o answer) bool {
	return alike(a.q, o.q) && a.code == o.code && a.value == o.value
}

// sent, taken and moved go by the chapter's words, and tell codes by their numbers.
func sent(q api.Queue, value int) answer {
	q = own(q)
	if len(q.Values) >= q.Depth {
		q.Lost++
		return answer{q: q, code: 2}
	}
	q.Values = append(q.Values, value)
	return answer{q: q, code: 0}
}

func taken(q api.Queue) answer {
	q = own(q)
	if len(q.Values) == 0 {
		return answer{q: q, code: 2}
	}
	first := q.Values[0]
	q.Values = q.Values[1:]
	return answer{q: q, code: 0, value: first}
}

func moved(from, to api.Queue) (api.Queue, api.Queue) {
	from, to = own(from), own(to)
	for len(from.Values) > 0 && len(to.Values) < to.Depth {
		to.Values = append(to.Values, from.Values[0])
		from.Values = from.Values[1:]
	}
	return from, to
}

// spoil writes over a queue's values, and over the room behind their end.
func spoil(q api.Queue) {
	all := q.Values[:cap(q.Values)]
	for i := range all {
		all[i] = -76
	}
}

// asHandedIn are a queue with no room behind its values' end, and some with room in which others of the caller's lie.
func asHandedIn(q api.Queue) []api.Queue {
	roomy, hardly := q, q
	roomy.Values = slices.Concat(q.Values, []int{most, -55, 0, 56, 57, 58, 59, 60, 61, least})[:len(q.Values)]
	hardly.Values = slices.Concat(q.Values, []int{-54})[:len(q.Values)]
	return []api.Queue{own(q), roomy, hardly}
}

// whole is a queue with all that lies in its values and behind their end.
func whole(q api.Queue) api.Queue {
	q.Values = q.Values[:cap(q.Values)]
	return q
}

// check holds an answer against what is wanted, and what is handed in and answered against the rules R3 and R5.
func check(t *testing.T, what string, q api.Queue, want answer, do func(api.Queue) answer) {
	t.Helper()
	for _, given := range asHandedIn(q) {
		was := own(whole(given))
		stays := func() bool { return alike(whole(given), was) }
		got := do(given)
		if !got.same(want) {
			t.Fatalf("%s, of %v: %v, not %v", what, q, got, want)
		}
		if !stays() {
			t.Fatalf("%s, of %v: what was handed in is another one", what, q)
		}
		again := do(given)
		spoil(got.q)
		if !stays() {
			t.Fatalf("%s, of %v: what was handed in hangs on the answer", what, q)
		}
		if !again.same(want) || !do(given).same(want) {
			t.Fatalf("%s, of %v: another answer", what, q)
		}
		spoil(given)
		if !again.same(want) {
			t.Fatalf("%s, of %v: the answer hangs on what was handed in", what, q)
		}
	}
}

func send(q api.Queue, value int) answer {
	q, code := ports.Send(q, value)
	return answer{q: q, code: code}
}

func take(q api.Queue) answer {
	q, code, value := ports.Take(q)
	return answer{q: q, code: code, value: value}
}

// pair is two queues, in the order in which Move answers them.
type pair struct{ from, to api.Queue }

func (p pair) same(o pair) bool {
	return alike(p.from, o.from) && alike(p.to, o.to)
}

func move(p pair) pair {
	from, to := ports.Move(p.from, p.to)
	return pair{from, to}
}

// checkMove holds the answer to one pair that is handed in against what is wanted, and both against the rules R3 and R5.
func checkMove(t *testing.T, given, want pair) {
	t.Helper()
	was := pair{own(whole(given.from)), own(whole(given.to))}
	stays := func() bool { return pair{whole(given.from), whole(given.to)}.same(was) }
	got := move(given)
	if !got.same(want) {
		t.Fatalf("Move of %v: %v, not %v", given, got, want)
	}
	if !stays() {
		t.Fatalf("Move of %v: what was handed in is another one", given)
	}
	again, third := move(given), move(given)
	spoil(got.from)
	if !stays() || !alike(got.to, want.to) {
		t.Fatalf("Move of %v: something hangs on the first queue that was answered", given)
	}
	spoil(got.to)
	if !stays() {
		t.Fatalf("Move of %v: what was handed in hangs on the second queue that was answered", given)
	}
	spoil(again.to)
	if !alike(again.from, want.from) {
		t.Fatalf("Move of %v: the first queue that was answered hangs on the second one", given)
	}
	if !third.same(want) || !move(given).same(want) {
		t.Fatalf("Move of %v: another answer", given)
	}
	spoil(given.from)
	spoil(given.to)
	if !third.same(want) {
		t.Fatal("Move: the answer hangs on what was handed in", third, want)
	}
}

// P18.2: the chapter's example: from 1 2 3, to a queue of depth 2 that has 9: 9 1, and 2 3 are left.
func TestExample(t *testing.T) {
	from, to := ports.Move(api.Queue{Depth: 5, Values: []int{1, 2, 3}, Lost: 4}, api.Queue{Depth: 2, Values: []int{9}, Lost: 6})
	if !alike(from, api.Queue{Depth: 5, Values: []int{2, 3}, Lost: 4}) || !alike(to, api.Queue{Depth: 2, Values: []int{9, 1}, Lost: 6}) {
		t.Error(from, to)
	}
}

// P18.1: the codes are the ones of api.
func TestCodes(t *testing.T) {
	if api.NoError != 0 || api.NotAvailable != 2 {
		t.Fatal(api.NoError, api.NotAvailable)
	}
	if _, code := ports.Send(api.Queue{Depth: 1}, 5); code != api.NoError {
		t.Error(code)
	}
	if _, code := ports.Send(api.Queue{}, 5); code != api.NotAvailable {
		t.Error(code)
	}
	if _, code, _ := ports.Take(api.Queue{Values: []int{5}}); code != api.NoError {
		t.Error(code)
	}
	if _, code, _ := ports.Take(api.Queue{Depth: 1}); code != api.NotAvailable {
		t.Error(code)
	}
}

// P18.1: where fewer than Depth values are, what is sent stands behind the others, with NoError, and as many are lost as were.
func TestSendThatFits(t *testing.T) {
	for _, c := range []struct {
		what         string
		depth        int
		values, want []int
	}{
		{"to none, Depth 1", 1, nil, []int{5}},
		{"to an empty list, Depth 1", 1, []int{}, []int{5}},
		{"to none, Depth 8", 8, nil, []int{5}},
		{"to one less than Depth", 2, []int{4}, []int{4, 5}},
		{"to one less than Depth, of several", 4, []int{9, 4, -3}, []int{9, 4, -3, 5}},
		{"to two less than Depth", 4, []int{9, 4}, []int{9, 4, 5}},
		{"to one less than MaxDepth", api.MaxDepth, []int{1, 2, 3, 4, 6, 7, 8}, []int{1, 2, 3, 4, 6, 7, 8, 5}},
		{"to one less than a Depth above MaxDepth", api.MaxDepth + 1, []int{1, 2, 3, 4, 6, 7, 8, 9}, []int{1, 2, 3, 4, 6, 7, 8, 9, 5}},
		{"to the same value", 3, []int{5, 5}, []int{5, 5, 5}},
		{"to a Depth that is full in 32 bits", 1<<32 + 2, []int{9, 4}, []int{9, 4, 5}},
		{"to the greatest Depth", most, []int{least, most}, []int{least, most, 5}},
	} {
		for _, lost := range telling() {
			q, code := ports.Send(api.Queue{Depth: c.depth, Values: c.values, Lost: lost}, 5)
			if !alike(q, api.Queue{Depth: c.depth, Values: c.want, Lost: lost}) || code != api.NoError {
				t.Error(c.what, lost, q, code)
			}
		}
	}
}

// P18.1: where just Depth values are, or more, what is sent is refused: one more is lost, all else is as it was, NotAvailable.
func TestSendThatIsRefused(t *testing.T) {
	for _, c := range []struct {
		what   string
		depth  int
		values []int
	}{
		{"just Depth, of one", 1, []int{4}},
		{"just Depth, of several", 3, []int{9, 4, 5}},
		{"just MaxDepth", api.MaxDepth, []int{1, 2, 3, 4, 5, 6, 7, 8}},
		{"one more than Depth", 2, []int{9, 4, 5}},
		{"far more than Depth", 1, []int{1, 2, 3, 4, 5, 6, 7, 8}},
		{"Depth 0, none", 0, nil},
		{"Depth 0, an empty list", 0, []int{}},
		{"Depth 0, some", 0, []int{5, 6}},
		{"Depth -1, none", -1, nil},
		{"Depth -1, an empty list", -1, []int{}},
		{"Depth -1, some", -1, []int{5, 6}},
		{"a Depth below 0 that would fit in 32 bits", 5 - 1<<32, []int{5, 6}},
		{"the least Depth, none", least, nil},
		{"the least Depth, some", least, []int{least, most}},
	} {
		for _, lost := range []int{least, -2, -1, 0, 1, 7, 1<<32 - 1, most - 1} {
			q, code := ports.Send(api.Queue{Depth: c.depth, Values: c.values, Lost: lost}, 5)
			if !alike(q, api.Queue{Depth: c.depth, Values: c.values, Lost: lost + 1}) || code != api.NotAvailable {
				t.Error(c.what, lost, q, code)
			}
		}
	}
}

// P18.1, R7: one more than the greatest number of lost ones is the least number.
func TestLostWrapsAround(t *testing.T) {
	for _, values := range [][]int{nil, {7}, {7, 8}} {
		q, code := ports.Send(api.Queue{Depth: len(values), Values: values, Lost: most}, 5)
		if !alike(q, api.Queue{Depth: len(values), Values: values, Lost: least}) || code != api.NotAvailable {
			t.Error(q, code)
		}
	}
}

// P18.1, R3, R5, R7: all queues, to which telling numbers are sent.
func TestSendToAllQueues(t *testing.T) {
	for _, q := range queues() {
		for _, value := range telling() {
			check(t, "Send", q, sent(q, value), func(q api.Queue) answer { return send(q, value) })
		}
	}
}

// P18.1: a queue without values stays as it was, whatever its depth and however many were lost: NotAvailable and 0.
func TestTakeOfNone(t *testing.T) {
	for _, values := range [][]int{nil, {}, slices.Grow([]int{}, 3), []int{4, 5}[:0]} {
		for _, depth := range depths(0) {
			for _, lost := range telling() {
				q := api.Queue{Depth: depth, Values: values, Lost: lost}
				got, code, value := ports.Take(q)
				if !alike(got, q) || code != api.NotAvailable || value != 0 {
					t.Error(q, got, code, value)
				}
			}
		}
	}
}

// P18.1: the first value is taken, and the others stay in their order, whatever the depth and however many were lost: NoError and that value.
func TestTakeOfTheFirst(t *testing.T) {
	for _, c := range []struct {
		what         string
		values, left []int
		first        int
	}{
		{"one", []int{7}, nil, 7},
		{"one that is 0", []int{0}, nil, 0},
		{"one that is a code", []int{api.NotAvailable}, nil, 2},
		{"two", []int{7, 8}, []int{8}, 7},
		{"two, the greater one first", []int{8, 7}, []int{7}, 8},
		{"many", []int{3, 1, 2, 9, -4, 5, 0, 8}, []int{1, 2, 9, -4, 5, 0, 8}, 3},
		{"the same ones", []int{6, 6, 6}, []int{6, 6}, 6},
		{"the least first", []int{least, most}, []int{most}, least},
		{"the greatest first", []int{most, least, -1}, []int{least, -1}, most},
		{"a negative one", []int{-5, 5}, []int{5}, -5},
	} {
		for _, depth := range depths(len(c.values)) {
			for _, lost := range telling() {
				q, code, value := ports.Take(api.Queue{Depth: depth, Values: c.values, Lost: lost})
				if !alike(q, api.Queue{Depth: depth, Values: c.left, Lost: lost}) || code != api.NoError || value != c.first {
					t.Error(c.what, depth, lost, q, code, value)
				}
			}
		}
	}
}

// P18.1, R3, R5: all queues, from which is taken.
func TestTakeOfAllQueues(t *testing.T) {
	for _, q := range queues() {
		check(t, "Take", q, taken(q), take)
	}
}

// P18.2: as many as fit are brought behind the others, in their order, and not one more.
func TestMove(t *testing.T) {
	for _, c := range []struct {
		what           string
		from           []int
		depth          int
		to, left, then []int
	}{
		{"from none to none", nil, 3, nil, nil, nil},
		{"from an empty list to one", []int{}, 3, []int{}, nil, nil},
		{"from none to some", nil, 3, []int{8, 9}, nil, []int{8, 9}},
		{"from none to a full one", nil, 2, []int{8, 9}, nil, []int{8, 9}},
		{"one to none", []int{1}, 1, nil, nil, []int{1}},
		{"one to some", []int{1}, 4, []int{8, 9}, nil, []int{8, 9, 1}},
		{"just as many as there is room for", []int{1, 2, 3}, 5, []int{8, 9}, nil, []int{8, 9, 1, 2, 3}},
		{"one less than there is room for", []int{1, 2}, 5, []int{8, 9}, nil, []int{8, 9, 1, 2}},
		{"one more than there is room for", []int{1, 2, 3, 4}, 5, []int{8, 9}, []int{4}, []int{8, 9, 1, 2, 3}},
		{"far more than there is room for", []int{1, 2, 3, 4, 5, 6, 7}, 3, []int{8, 9}, []int{2, 3, 4, 5, 6, 7}, []int{8, 9, 1}},
		{"just as many as there is room for, to none", []int{3, 1, 2}, 3, nil, nil, []int{3, 1, 2}},
		{"one less than there is room for, to none", []int{3, 1}, 3, []int{}, nil, []int{3, 1}},
		{"one more than there is room for, to none", []int{3, 1, 2, 4}, 3, nil, []int{4}, []int{3, 1, 2}},
		{"to a full one", []int{1, 2}, 2, []int{8, 9}, []int{1, 2}, []int{8, 9}},
		{"to one with one more than Depth", []int{1, 2}, 1, []int{8, 9}, []int{1, 2}, []int{8, 9}},
		{"to one with far more than Depth", []int{1, 2}, 1, []int{4, 5, 6, 7, 8, 9}, []int{1, 2}, []int{4, 5, 6, 7, 8, 9}},
		{"to Depth 0", []int{1, 2}, 0, nil, []int{1, 2}, nil},
		{"to Depth 0 with some", []int{1, 2}, 0, []int{9}, []int{1, 2}, []int{9}},
		{"to a Depth below 0", []int{1, 2}, -1, nil, []int{1, 2}, nil},
		{"to a Depth below 0 with some", []int{1, 2}, -5, []int{9}, []int{1, 2}, []int{9}},
		{"to a Depth below 0 that would fit in 32 bits", []int{1, 2}, 5 - 1<<32, []int{9}, []int{1, 2}, []int{9}},
		{"to the least Depth", []int{1, 2}, least, nil, []int{1, 2}, nil},
		{"to a Depth that is 0 in 32 bits", []int{1, 2}, 1 << 32, []int{9}, nil, []int{9, 1, 2}},
		{"to the greatest Depth", []int{1, 2}, most, []int{9}, nil, []int{9, 1, 2}},
		{"the same ones to the same ones", []int{6, 6, 6}, 4, []int{6, 6}, []int{6}, []int{6, 6, 6, 6}},
		{"the least and the greatest", []int{most, least, -1}, 4, []int{least, most}, []int{-1}, []int{least, most, most, least}},
		{"eight to eight", []int{1, 2, 3, 4, 5, 6, 7, 8}, api.MaxDepth, nil, nil, []int{1, 2, 3, 4, 5, 6, 7, 8}},
	} {
		for i, lost := range telling() {
			for _, depth := range depths(len(c.from)) {
				other := telling()[len(telling())-1-i]
				from, to := ports.Move(api.Queue{Depth: depth, Values: c.from, Lost: lost}, api.Queue{Depth: c.depth, Values: c.to, Lost: other})
				if !alike(from, api.Queue{Depth: depth, Values: c.left, Lost: lost}) || !alike(to, api.Queue{Depth: c.depth, Values: c.then, Lost: other}) {
					t.Error(c.what, depth, lost, from, to)
				}
			}
		}
	}
}

// P18.2, R3, R5: from all of some queues to all of them, with room behind their values and without.
func TestMoveOfAllQueues(t *testing.T) {
	for _, q := range some() {
		for _, o := range some() {
			from, to := moved(q, o)
			for _, kind := range [][2]int{{0, 0}, {1, 1}, {0, 2}, {2, 1}} {
				checkMove(t, pair{asHandedIn(q)[kind[0]], asHandedIn(o)[kind[1]]}, pair{from, to})
			}
		}
	}
}

// P18.2, R3: two queues whose values lie in the same list, one behind the other or the very same, are moved as if they lay apart.
func TestMoveWithinOneList(t *testing.T) {
	all := func() []int { return []int{1, 2, 3, 4, 5, 6} }
	for _, c := range []struct {
		what                       string
		fromAt, fromEnd, at, ended int
	}{
		{"the same", 0, 6, 0, 6},
		{"the same, with room behind", 0, 3, 0, 3},
		{"from what lies behind", 2, 5, 0, 2},
		{"from what lies ahead", 0, 2, 2, 4},
		{"from what lies far behind", 4, 6, 0, 1},
		{"from more of it", 0, 6, 0, 2},
		{"from less of it", 0, 2, 0, 5},
		{"from some of each other's", 0, 4, 2, 5},
	} {
		for depth := -1; depth < 14; depth++ {
			list := all()
			given := pair{api.Queue{Depth: 3, Values: list[c.fromAt:c.fromEnd], Lost: 4}, api.Queue{Depth: depth, Values: list[c.at:c.ended], Lost: 5}}
			from, to := moved(given.from, given.to)
			got := move(given)
			if !got.same(pair{from, to}) || !slices.Equal(list, all()) {
				t.Fatal(c.what, depth, got, list)
			}
			spoil(got.from)
			if !alike(got.to, to) {
				t.Fatal(c.what, depth, got)
			}
			got = move(given)
			spoil(got.to)
			if !alike(got.from, from) || !slices.Equal(list, all()) {
				t.Fatal(c.what, depth, got, list)
			}
		}
	}
}

// P18.1, P18.2: where all that is sent is taken, or moved and taken, the queue is as it was; a second Move brings nothing more.
func TestThereAndBack(t *testing.T) {
	for _, q := range some() {
		if len(q.Values) == 0 && q.Depth > 0 {
			one, code := ports.Send(q, 5)
			back, again, value := ports.Take(one)
			if !alike(back, q) || code != api.NoError || again != api.NoError || value != 5 {
				t.Fatal(q, one, back, code, again, value)
			}
		}
		for _, o := range some() {
			once := move(pair{q, o})
			if twice := move(once); !twice.same(once) {
				t.Fatal(q, o, once, twice)
			}
			if n := len(once.from.Values) + len(once.to.Values); n != len(q.Values)+len(o.Values) {
				t.Fatal(q, o, once)
			}
		}
	}
}

// P18.2: a Move is what as many Takes and Sends do, one by one, till the one has none or the other is full.
func TestMoveIsTakesAndSends(t *testing.T) {
	for _, q := range some() {
		for _, o := range some() {
			from, to := q, o
			for len(from.Values) > 0 && len(to.Values) < to.Depth {
				left, _, value := ports.Take(from)
				from = left
				to, _ = ports.Send(to, value)
			}
			if got := move(pair{q, o}); !got.same(pair{from, to}) {
				t.Fatal(q, o, got, from, to)
			}
		}
	}
}

// run is queues and what came to them, told by what was done alone: what each one should hold, and how many sent to it were refused.
type run struct {
	queues  []api.Queue
	should  [][]int
	refused []int
	// next is what is sent next: no two messages are the same, so that one that came twice is seen.
	next int
	// accepted and got are all messages that were sent and not refused, and all that were taken, over all queues.
	accepted, got []int
}

func start(depths ...int) *run {
	r := &run{should: make([][]int, len(depths)), refused: make([]int, len(depths))}
	for _, depth := range depths {
		r.queues = append(r.queues, api.Queue{Depth: depth})
	}
	return r
}

// send sends the next message, and tells whether it was refused just where the queue is full.
func (r *run) send(n int) bool {
	message, code := r.next, 0
	r.next++
	r.queues[n], code = ports.Send(r.queues[n], message)
	if len(r.should[n]) >= r.queues[n].Depth {
		r.refused[n]++
		return code == api.NotAvailable
	}
	r.should[n] = append(r.should[n], message)
	r.accepted = append(r.accepted, message)
	return code == api.NoError
}

// take takes a message, and tells whether it is the one that has been there longest.
func (r *run) take(n int) bool {
	q, code, message := ports.Take(r.queues[n])
	r.queues[n] = q
	if len(r.should[n]) == 0 {
		return code == api.NotAvailable && message == 0
	}
	first := r.should[n][0]
	r.should[n] = r.should[n][1:]
	r.got = append(r.got, message)
	return code == api.NoError && message == first
}

// move moves as many as fit; from and to differ.
func (r *run) move(from, to int) {
	r.queues[from], r.queues[to] = ports.Move(r.queues[from], r.queues[to])
	n := max(0, min(len(r.should[from]), r.queues[to].Depth-len(r.should[to])))
	r.should[to] = append(r.should[to], r.should[from][:n]...)
	r.should[from] = r.should[from][n:]
}

// fits tells whether each queue holds what it should, and counted what it refused.
func (r *run) fits() bool {
	for n, q := range r.queues {
		if !slices.Equal(q.Values, r.should[n]) || q.Lost != r.refused[n] {
			return false
		}
	}
	return true
}

// each tells whether each message that was accepted was taken once or is held once, and no other one is.
func (r *run) each() bool {
	all := slices.Clone(r.got)
	for _, q := range r.queues {
		all = append(all, q.Values...)
	}
	slices.Sort(all)
	return slices.Equal(all, r.accepted)
}

// P18.3: so it is whatever is sent, taken and moved, one deed after the other, among queues of several depths.
func TestDeedAfterDeed(t *testing.T) {
	refused, got := 0, 0
	for seed := range 20 {
		r, x := start(1, 2, 3, 8, 0, 5, -1), seed+1
		for turn := range 3000 {
			x = (x*1103515245 + 12345) & (1<<31 - 1)
			n, far := x>>8%7, x>>11%6
			right := true
			switch deed := x >> 16 % 16; {
			case deed < 7:
				right = r.send(n)
			case deed < 12:
				right = r.take(n)
			default:
				r.move(n, (n+1+far)%7)
			}
			if !right || !r.fits() {
				t.Fatal(seed, turn, r.queues, r.should, r.refused)
			}
		}
		if !r.each() {
			t.Fatal(seed, r.queues, len(r.accepted), len(r.got))
		}
		got += len(r.got)
		for _, n := range r.refused {
			refused += n
		}
	}
	if got < 5000 || refused < 5000 {
		t.Error("too few", got, refused)
	}
}

// P18.3: what one sends and another one takes, with a queue each, comes in its order, each once, or was refused and counted; what is moved where windows begin comes no sooner.
func TestFromQueueToQueue(t *testing.T) {
	for _, depths := range [][2]int{{1, 1}, {1, 4}, {4, 1}, {3, 3}, {8, 8}, {2, 7}} {
		for _, window := range []int{1, 3, 7, 20} {
			r := start(depths[0], depths[1])
			for now := range 1000 {
				if now%window == 0 {
					r.move(0, 1)
				}
				right := true
				if now%5 < 3 {
					right = r.send(0)
				}
				if now%3 == 0 {
					right = right && r.take(1)
				}
				if !right || !r.fits() {
					t.Fatal(depths, window, now, r.queues, r.should)
				}
			}
			if n := len(r.got); n == 0 || !slices.Equal(r.got, r.accepted[:n]) {
				t.Fatal(depths, window, r.got, r.accepted)
			}
			if len(r.accepted)+r.queues[0].Lost != r.next || r.queues[1].Lost != 0 || !r.each() {
				t.Fatal(depths, window, r.next, len(r.accepted), r.queues)
			}
		}
	}
}

// P18.3: over a chain of queues messages stay in their order, whichever of them are moved first.
func TestOverAChain(t *testing.T) {
	for _, back := range []bool{false, true} {
		r := start(4, 1, 3, 2)
		for turn := range 2000 {
			if turn%3 > 0 && !r.send(0) || turn%2 == 0 && !r.take(3) {
				t.Fatal(back, turn, r.queues)
			}
			for n := range 3 {
				if back {
					n = 2 - n
				}
				r.move(n, n+1)
			}
			if !r.fits() {
				t.Fatal(back, turn, r.queues, r.should)
			}
		}
		if n := len(r.got); n < 500 || !slices.Equal(r.got, r.accepted[:n]) || !r.each() {
			t.Fatal(back, r.got, r.accepted)
		}
	}
}

// P18.1, P18.2, R3: queues that came of one queue are apart: what is sent to one, taken from it or moved changes no other.
func TestQueuesAreApart(t *testing.T) {
	q := api.Queue{Depth: 8, Values: append(make([]int, 0, 16), 1, 2)}
	one, _ := ports.Send(q, 3)
	two, _ := ports.Send(q, 4)
	three, _ := ports.Send(one, 5)
	four, _ := ports.Send(one, 6)
	less, _, _ := ports.Take(one)
	five, _ := ports.Send(less, 7)
	none, all := ports.Move(less, two)
	six, _ := ports.Send(all, 8)
	nine, _ := ports.Send(all, 9)
	for _, c := range []struct {
		what string
		q    api.Queue
		want []int
	}{
		{"at first", q, []int{1, 2}},
		{"with 3", one, []int{1, 2, 3}},
		{"with 4", two, []int{1, 2, 4}},
		{"with 3 and 5", three, []int{1, 2, 3, 5}},
		{"with 3 and 6", four, []int{1, 2, 3, 6}},
		{"without the first", less, []int{2, 3}},
		{"without the first, with 7", five, []int{2, 3, 7}},
		{"from which was moved", none, nil},
		{"to which was moved", all, []int{1, 2, 4, 2, 3}},
		{"to which was moved, with 8", six, []int{1, 2, 4, 2, 3, 8}},
		{"to which was moved, with 9", nine, []int{1, 2, 4, 2, 3, 9}},
	} {
		if !alike(c.q, api.Queue{Depth: 8, Values: c.want}) {
			t.Error(c.what, c.q)
		}
	}
}

// P1: very many Sends, Moves and Takes end, and in between what is sent is taken.
func TestVeryMany(t *testing.T) {
	near, far := api.Queue{Depth: 3}, api.Queue{Depth: 2}
	for n := range 1 << 20 {
		near, _ = ports.Send(near, n)
		near, far = ports.Move(near, far)
		left, code, value := ports.Take(far)
		if far = left; code != api.NoError || value != n {
			t.Fatal(n, code, value)
		}
	}
	if !alike(near, api.Queue{Depth: 3}) || !alike(far, api.Queue{Depth: 2}) {
		t.Error(near, far)
	}
}

// P1, P18.2: a very long queue is moved, all of it, and half of it.
func TestLongQueues(t *testing.T) {
	const many = 1 << 20
	values := make([]int, many)
	for i := range values {
		values[i] = i * 3
	}
	long := api.Queue{Depth: many, Values: values}
	from, to := ports.Move(long, api.Queue{Depth: most, Values: []int{-1}})
	if !alike(from, api.Queue{Depth: many}) || to.Values[0] != -1 || !slices.Equal(to.Values[1:], values) {
		t.Error(len(from.Values), len(to.Values))
	}
	from, to = ports.Move(long, api.Queue{Depth: many / 2})
	if !slices.Equal(from.Values, values[many/2:]) || !slices.Equal(to.Values, values[:many/2]) {
		t.Error(len(from.Values), len(to.Values))
	}
	q, code := ports.Send(long, 5)
	if !alike(q, api.Queue{Depth: many, Values: values, Lost: 1}) || code != api.NotAvailable {
		t.Error(len(q.Values), code)
	}
	q, code, value := ports.Take(long)
	if !slices.Equal(q.Values, values[1:]) || code != api.NoError || value != 0 {
		t.Error(len(q.Values), code, value)
	}
}
