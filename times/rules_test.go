package times_test

import (
	"fmt"
	"math"
	"reflect"
	"slices"
	"strings"
	"testing"

	"quarterdeck/api"
)

const (
	least = math.MinInt
	most  = math.MaxInt
)

// text is all of a thing; of a list nil and empty are told as the same.
func text(x any) string { return fmt.Sprintf("%+v", x) }

// lists goes through all lists in a thing, also those in the room behind the end of one.
func lists(x reflect.Value, do func(list reflect.Value)) {
	switch x.Kind() {
	case reflect.Struct:
		for k := range x.NumField() {
			lists(x.Field(k), do)
		}
	case reflect.Slice:
		whole := x.Slice(0, x.Cap())
		do(whole)
		for k := range whole.Len() {
			lists(whole.Index(k), do)
		}
	}
}

// memory is all that lies in the lists of a thing, with the room behind their ends.
func memory(x any) string {
	var b strings.Builder
	lists(reflect.ValueOf(x), func(list reflect.Value) { fmt.Fprintf(&b, "%+v;", list) })
	return b.String()
}

// spoil changes each number in the lists of a thing, also behind their ends.
func spoil(x any) {
	lists(reflect.ValueOf(x), func(list reflect.Value) {
		for k := range list.Len() {
			spoilOne(list.Index(k))
		}
	})
}

func spoilOne(x reflect.Value) {
	switch x.Kind() {
	case reflect.Int:
		x.SetInt(^x.Int())
	case reflect.Bool:
		x.SetBool(!x.Bool())
	case reflect.Struct:
		for k := range x.NumField() {
			spoilOne(x.Field(k))
		}
	case reflect.Array:
		for k := range x.Len() {
			spoilOne(x.Index(k))
		}
	}
}

// place is where a list lies.
type place struct{ from, to uintptr }

// places are where the lists of a thing lie.
func places(x any) []place {
	var l []place
	lists(reflect.ValueOf(x), func(list reflect.Value) {
		if list.Len() > 0 {
			from := list.Pointer()
			l = append(l, place{from, from + uintptr(list.Len())*list.Type().Elem().Size()})
		}
	})
	return l
}

// shared tells whether any two of some places lie over each other.
func shared(l []place) bool {
	l = slices.SortedFunc(slices.Values(l), func(a, b place) int { return int(int64(a.from) - int64(b.from)) })
	for k := 1; k < len(l); k++ {
		if l[k].from < l[k-1].to {
			return true
		}
	}
	return false
}

// answer is what a call comes to: of Late the numbers, of the others that have one the code.
type answer struct {
	L    []int
	P    api.Part
	Code int
}

// call is one of the package's calls, with all that it takes but the partition.
type call func(p api.Part) answer

// check holds what is answered against what is wanted, and what is handed in and answered against the rules R3 and R5.
func check(t *testing.T, what string, p api.Part, want answer, do call) {
	t.Helper()
	was, wasMemory := text(p), memory(p)
	got := do(p)
	if text(got) != text(want) {
		t.Fatalf("%s:\n%+v, not\n%+v", what, got, want)
	}
	if text(p) != was || memory(p) != wasMemory {
		t.Fatalf("%s: what was handed in is another one", what)
	}
	if again := do(p); text(again) != text(want) {
		t.Fatalf("%s: another answer", what)
	}
	if shared(append(places(p), places(got)...)) {
		t.Fatalf("%s: lists are shared", what)
	}
	spoil(got)
	if text(p) != was || memory(p) != wasMemory {
		t.Fatalf("%s: what was handed in hangs on the answer", what)
	}
	got = do(p)
	spoil(p)
	if text(got) != text(want) {
		t.Fatalf("%s: the answer hangs on what was handed in", what)
	}
}

// room is a list with room behind its end, in which something of the caller's lies.
func room[T any](behind T, l ...T) []T {
	return append(l, behind)[:len(l)]
}

// waits are those of processes, each with another priority and value.
func waits(l ...int) []api.Wait {
	var all []api.Wait
	for place, i := range l {
		all = append(all, api.Wait{Proc: i, Prio: 50 + place, Value: 60 + place})
	}
	return room(api.Wait{Proc: 1, Prio: 99, Value: 99}, all...)
}

// with is a partition of processes, in which each list has elements and room, and in each kind of object some of them wait, ahead of others, behind and between.
func with(next int, l ...api.Proc) api.Part {
	wait := api.Wait{Proc: 0, Prio: 99, Value: 99}
	return api.Part{
		Mode: api.Normal, Begun: 3, Next: next,
		Memory: room(99, 4, 5, 6),
		Procs:  room(api.Proc{State: api.Waiting, Since: 99}, l...),
		Boards: room(api.Board{L: []api.Wait{wait}},
			api.Board{Is: true, Value: 7, L: waits(0, 1, 0, 2)},
			api.Board{Is: true, Value: 8},
			api.Board{Value: 9, L: waits(3)}),
		Buffers: room(api.Buffer{L: []api.Wait{wait}},
			api.Buffer{Depth: 2, Ranked: true, Values: room(99, 10, 11), L: waits(2, 1, 3, 1, 0)},
			api.Buffer{Depth: 1, Values: room(99, 0, 1), L: waits(5, 4)}),
		Semas: room(api.Sema{L: []api.Wait{wait}},
			api.Sema{Count: 1, Most: 2, Ranked: true, L: waits(1, 0, 2)},
			api.Sema{Most: 4, L: waits(0, 6, 0, 4, 0, -1)}),
		Events: room(api.Event{L: []api.Wait{wait}},
			api.Event{Up: true, L: waits(4, 3, 5, 77)},
			api.Event{L: waits(most, 0, 0, 3, least)}),
		Samples: room(api.Sample{Value: 99}, api.Sample{Is: true, Value: 12, At: 13}, api.Sample{Value: 0}),
		Queues: room(api.Queue{Values: []int{99}},
			api.Queue{Depth: 3, Values: room(99, 14, 0), Lost: 15}, api.Queue{Depth: 1, Lost: 16}),
		Latch: api.Latch{Depth: 4, Lines: room(99, 17, 0, 18), Dropped: 19},
		Given: room(99, 20, 0, 21),
	}
}

// partsOfLittle are partitions with lists that are nil and empty, and with room, and with nothing but numbers.
func partsOfLittle() []func() api.Part {
	return []func() api.Part{
		func() api.Part { return api.Part{} },
		func() api.Part { return api.Part{Mode: most, Begun: least, Next: most} },
		func() api.Part {
			return api.Part{
				Memory: []int{}, Procs: []api.Proc{}, Boards: []api.Board{}, Buffers: []api.Buffer{}, Semas: []api.Sema{},
				Events: []api.Event{}, Samples: []api.Sample{}, Queues: []api.Queue{}, Latch: api.Latch{Lines: []int{}}, Given: []int{},
			}
		},
		func() api.Part {
			return api.Part{
				Memory: room(9), Procs: room(api.Proc{State: api.Waiting}), Boards: room(api.Board{}), Buffers: room(api.Buffer{}), Semas: room(api.Sema{}),
				Events: room(api.Event{}), Samples: room(api.Sample{}), Queues: room(api.Queue{}), Latch: api.Latch{Lines: room(9)}, Given: room(9),
			}
		},
		func() api.Part {
			return api.Part{
				Boards:  []api.Board{{L: room(api.Wait{Proc: 9})}, {L: []api.Wait{}}},
				Buffers: []api.Buffer{{Values: room(9), L: room(api.Wait{Proc: 9})}, {Values: []int{}, L: []api.Wait{}}},
				Semas:   []api.Sema{{L: room(api.Wait{Proc: 9})}, {L: []api.Wait{}}},
				Events:  []api.Event{{L: room(api.Wait{Proc: 9})}, {L: []api.Wait{}}},
				Queues:  []api.Queue{{Values: room(9)}, {Values: []int{}}},
				Latch:   api.Latch{Depth: least, Dropped: most},
			}
		},
	}
}
