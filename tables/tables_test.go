package tables_test

import (
	"bytes"
	"math"
	"math/big"
	"slices"
	"testing"

	"quarterdeck/api"
	"quarterdeck/tables"
	"quarterdeck/word"
)

// least and greatest are the ends of whole numbers.
const (
	least    = math.MinInt
	greatest = math.MaxInt
)

// telling are the chapter's bounds, what lies on both sides of each, and numbers that are far from them.
func telling() []int {
	return []int{least, least + 1, -1 << 40, -4097, -65, -8, -1, 0, 1, 2, 3, 4, 5, 6, 7, 8, 9, 10, 11, 12, 13, 14, 15, 16, 62, 63, 64, 65, 66, 127, 128, 4095, 4096, 4097, 1 << 32, 1<<40 - 1, 1 << 40, 1<<40 + 1, greatest - 1, greatest}
}

// small is the chapter's example, exampleNumbers its numbers.
func small() api.Config {
	return api.Config{
		Frame:   10,
		Parts:   []api.PartConf{{Words: 1, Procs: []api.ProcConf{{}}, Table: make([]int, 7)}},
		Windows: []api.Window{{Len: 10}},
	}
}

func exampleNumbers() []int {
	return []int{10, 0, 0, 1, 1, 0, 1, 0, 0, 0, 0, 0, 0, 0, 0, 0, 0, 0, 0, 7, 0, 0, 0, 0, 0, 0, 0, 1, 0, 0, 10, 0}
}

// several has several of everything, with numbers that differ from those beside them.
func several() api.Config {
	a := api.PartConf{
		Words:   40,
		Regions: []api.Region{{From: 3, Len: 5, Write: true}, {From: 10, Len: 20}, {From: 0, Len: 2, Write: true}},
		Procs:   []api.ProcConf{{Prio: 1, Period: 200, Limit: 90, Entry: 17, Auto: true}, {Prio: 15, Period: 0, Limit: 4096, Entry: 63}, {Prio: 2, Period: 4096, Limit: 6, Entry: 5, Auto: true}},
		Boards:  3,
		Buffers: []api.BufferConf{{Depth: 2, Ranked: true}, {Depth: 8}},
		Semas:   []api.SemaConf{{Count: 2, Most: 5, Ranked: true}, {Count: 0, Most: 1}, {Count: 8, Most: 8, Ranked: true}},
		Events:  4,
		Samples: []int{300, 0, 4096},
		Queues:  []int{7, 1},
		Latch:   6,
		Table:   []int{0, 1, 2, 3, 4, 0, 4},
	}
	b := api.PartConf{Words: 1, Procs: []api.ProcConf{{Prio: 3}}, Samples: []int{3, 2}, Queues: []int{5, 4, 3}, Table: []int{0, 4, 4, 4, 4, 4, 4}}
	c := api.PartConf{Words: 64, Regions: []api.Region{{From: 63, Len: 1}}, Procs: []api.ProcConf{{}, {Auto: true}}, Boards: 1, Semas: []api.SemaConf{{Count: 1, Most: 2}}, Samples: []int{1}, Latch: 1, Table: make([]int, 7)}
	return api.Config{
		Frame:  1000,
		Switch: 130,
		Lines:  []int{2, 0, 1, 1},
		Parts:  []api.PartConf{a, b, c},
		Windows: []api.Window{
			{Part: 1, Start: 5, Len: 295}, {Part: 0, Start: 300, Len: 1}, {Part: 2, Start: 400, Len: 200}, {Part: 0, Start: 600, Len: 400},
		},
		Channels: []api.Channel{
			{From: 0, A: 2, To: 1, B: 1}, {Queuing: true, From: 1, A: 2, To: 0, B: 1}, {From: 2, A: 0, To: 0, B: 1}, {Queuing: true, From: 0, A: 0, To: 1, B: 1},
		},
	}
}

// times is a list of so many of one thing.
func times[T any](n int, one T) []T {
	var l []T
	for range n {
		l = append(l, one)
	}
	return l
}

// greatestPart and greatestOf have each list as long as it may be, and each number as great as it may be.
func greatestPart() api.PartConf {
	return api.PartConf{
		Words:   64,
		Regions: []api.Region{{From: 48, Len: 16, Write: true}, {From: 0, Len: 16, Write: true}, {From: 32, Len: 16, Write: true}, {From: 16, Len: 16, Write: true}},
		Procs:   times(6, api.ProcConf{Prio: 15, Period: 4096, Limit: 4096, Entry: 63, Auto: true}),
		Boards:  4,
		Buffers: times(4, api.BufferConf{Depth: 8, Ranked: true}),
		Semas:   times(4, api.SemaConf{Count: 8, Most: 8, Ranked: true}),
		Events:  4,
		Samples: times(4, 4096),
		Queues:  times(4, 8),
		Latch:   8,
		Table:   []int{0, 4, 4, 4, 4, 4, 4},
	}
}

func greatestOf() api.Config {
	c := api.Config{Frame: 4096, Switch: 4096, Lines: times(8, 3)}
	for range 4 {
		c.Parts = append(c.Parts, greatestPart())
	}
	for n := range 12 {
		c.Windows = append(c.Windows, api.Window{Part: 3, Start: 341 * n, Len: 341})
	}
	c.Windows[11].Len = 345
	for n := range 4 {
		c.Channels = append(c.Channels, api.Channel{From: 3, A: n, To: 2, B: n}, api.Channel{Queuing: true, From: 3, A: n, To: 2, B: n})
	}
	return c
}

// leastOf has each number as small as it may be, in lists of one element.
func leastOf() api.Config {
	p := func() api.PartConf {
		return api.PartConf{
			Words:   1,
			Regions: []api.Region{{Len: 1}},
			Procs:   []api.ProcConf{{}},
			Buffers: []api.BufferConf{{Depth: 1}},
			Semas:   []api.SemaConf{{Most: 1}},
			Samples: []int{0},
			Queues:  []int{1},
			Table:   make([]int, 7),
		}
	}
	return api.Config{
		Frame:    1,
		Lines:    []int{0},
		Parts:    []api.PartConf{p(), p()},
		Windows:  []api.Window{{Len: 1}},
		Channels: []api.Channel{{To: 1}},
	}
}

func ordinary() []api.Config {
	return []api.Config{small(), several(), greatestOf(), leastOf()}
}

// within tells whether a number is one from a to b.
func within(n, a, b int) bool { return a <= n && n <= b }

// partMayBe goes by the chapter's words.
func partMayBe(p api.PartConf) bool {
	if !within(p.Words, 1, 64) || len(p.Regions) > 4 {
		return false
	}
	var touched [64]int
	for _, r := range p.Regions {
		if !within(r.From, 0, p.Words-1) || !within(r.Len, 1, p.Words) || r.From+r.Len > p.Words {
			return false
		}
		for at := r.From; at < r.From+r.Len; at++ {
			if touched[at]++; touched[at] > 1 {
				return false
			}
		}
	}
	if len(p.Procs) == 0 || len(p.Procs) > 6 {
		return false
	}
	for _, c := range p.Procs {
		if !within(c.Prio, 0, 15) || !within(c.Period, 0, 4096) || !within(c.Limit, 0, 4096) || !within(c.Entry, 0, 63) {
			return false
		}
	}
	if !within(p.Boards, 0, 4) || !within(p.Events, 0, 4) || !within(p.Latch, 0, 8) {
		return false
	}
	if len(p.Buffers) > 4 || len(p.Semas) > 4 || len(p.Samples) > 4 || len(p.Queues) > 4 || len(p.Table) != 7 || p.Table[0] != 0 {
		return false
	}
	for _, b := range p.Buffers {
		if !within(b.Depth, 1, 8) {
			return false
		}
	}
	for _, s := range p.Semas {
		if !within(s.Most, 1, 8) || !within(s.Count, 0, s.Most) {
			return false
		}
	}
	for _, n := range p.Samples {
		if !within(n, 0, 4096) {
			return false
		}
	}
	for _, n := range p.Queues {
		if !within(n, 1, 8) {
			return false
		}
	}
	for _, n := range p.Table {
		if !within(n, 0, 4) {
			return false
		}
	}
	return true
}

// mayBe goes by the chapter's words; ends of windows are numbers without bound.
func mayBe(c api.Config) bool {
	if !within(c.Frame, 1, 4096) || !within(c.Switch, 0, c.Frame) {
		return false
	}
	if !within(len(c.Parts), 1, 4) || !within(len(c.Windows), 1, 12) || len(c.Lines) > 8 || len(c.Channels) > 8 {
		return false
	}
	for _, p := range c.Parts {
		if !partMayBe(p) {
			return false
		}
	}
	part := func(n int) bool { return within(n, 0, len(c.Parts)-1) }
	for _, n := range c.Lines {
		if !part(n) {
			return false
		}
	}
	ahead := big.NewInt(0)
	for _, w := range c.Windows {
		start := big.NewInt(int64(w.Start))
		end := new(big.Int).Add(start, big.NewInt(int64(w.Len)))
		if !part(w.Part) || w.Start < 0 || w.Len < 1 || start.Cmp(ahead) < 0 || end.Cmp(big.NewInt(int64(c.Frame))) > 0 {
			return false
		}
		ahead = end
	}
	ends := map[[3]int]int{}
	for _, ch := range c.Channels {
		if !part(ch.From) || !part(ch.To) || ch.From == ch.To {
			return false
		}
		kind, from, to := 0, len(c.Parts[ch.From].Samples), len(c.Parts[ch.To].Samples)
		if ch.Queuing {
			kind, from, to = 1, len(c.Parts[ch.From].Queues), len(c.Parts[ch.To].Queues)
		}
		if !within(ch.A, 0, from-1) || !within(ch.B, 0, to-1) {
			return false
		}
		ends[[3]int{kind, ch.From, ch.A}]++
		ends[[3]int{kind, ch.To, ch.B}]++
	}
	for _, n := range ends {
		if n > 1 {
			return false
		}
	}
	return true
}

// truth is a bool as a number.
func truth(is bool) int {
	if is {
		return 1
	}
	return 0
}

// numbersOf are a configuration's numbers in the order that the chapter tells.
func numbersOf(c api.Config) []int {
	l := []int{c.Frame, c.Switch, len(c.Lines)}
	l = append(l, c.Lines...)
	l = append(l, len(c.Parts))
	for _, p := range c.Parts {
		l = append(l, p.Words, len(p.Regions))
		for _, r := range p.Regions {
			l = append(l, r.From, r.Len, truth(r.Write))
		}
		l = append(l, len(p.Procs))
		for _, q := range p.Procs {
			l = append(l, q.Prio, q.Period, q.Limit, q.Entry, truth(q.Auto))
		}
		l = append(l, p.Boards, len(p.Buffers))
		for _, b := range p.Buffers {
			l = append(l, b.Depth, truth(b.Ranked))
		}
		l = append(l, len(p.Semas))
		for _, s := range p.Semas {
			l = append(l, s.Count, s.Most, truth(s.Ranked))
		}
		l = append(l, p.Events, len(p.Samples))
		l = append(l, p.Samples...)
		l = append(l, len(p.Queues))
		l = append(l, p.Queues...)
		l = append(l, p.Latch, len(p.Table))
		l = append(l, p.Table...)
	}
	l = append(l, len(c.Windows))
	for _, w := range c.Windows {
		l = append(l, w.Part, w.Start, w.Len)
	}
	l = append(l, len(c.Channels))
	for _, ch := range c.Channels {
		l = append(l, truth(ch.Queuing), ch.From, ch.A, ch.To, ch.B)
	}
	return l
}

// bytesOf are numbers as word's bytes.
func bytesOf(t *testing.T, l []int) []byte {
	t.Helper()
	b, e := word.PutAll(l)
	if e != api.OK {
		t.Fatal("no table's numbers", l)
	}
	return b
}

// The order of the bytes: n is a number, b a bool, and what stands in [ ] comes as often as the number ahead of it tells.
const (
	partForm   = "n[nnb][nnnnb]n[nb][nnb]n[n][n]n[n]"
	configForm = "nn[n][" + partForm + "][nnn][bnnnn]"
)

// formed goes through numbers by their order, and tells what is left of them, and the first error.
func formed(form string, l []int) ([]int, api.Errno) {
	for len(form) > 0 {
		if len(l) == 0 {
			return nil, api.ErrMore
		}
		n := l[0]
		l = l[1:]
		kind := form[0]
		form = form[1:]
		if kind == 'b' && n > 1 || kind == '[' && n > 64 {
			return nil, api.ErrForm
		}
		if kind != '[' {
			continue
		}
		end := closing(form)
		for range n {
			var e api.Errno
			if l, e = formed(form[:end], l); e != api.OK {
				return nil, e
			}
		}
		form = form[end+1:]
	}
	return l, api.OK
}

// closing is where the bracket ends that has begun ahead of a form.
func closing(form string) int {
	depth := 0
	for at := range len(form) {
		switch form[at] {
		case '[':
			depth++
		case ']':
			if depth == 0 {
				return at
			}
			depth--
		}
	}
	return len(form)
}

// built is the configuration that numbers are which have their form.
func built(l []int) api.Config {
	next := func() int {
		n := l[0]
		l = l[1:]
		return n
	}
	var c api.Config
	c.Frame, c.Switch = next(), next()
	for range next() {
		c.Lines = append(c.Lines, next())
	}
	for range next() {
		var p api.PartConf
		p.Words = next()
		for range next() {
			p.Regions = append(p.Regions, api.Region{From: next(), Len: next(), Write: next() == 1})
		}
		for range next() {
			p.Procs = append(p.Procs, api.ProcConf{Prio: next(), Period: next(), Limit: next(), Entry: next(), Auto: next() == 1})
		}
		p.Boards = next()
		for range next() {
			p.Buffers = append(p.Buffers, api.BufferConf{Depth: next(), Ranked: next() == 1})
		}
		for range next() {
			p.Semas = append(p.Semas, api.SemaConf{Count: next(), Most: next(), Ranked: next() == 1})
		}
		p.Events = next()
		for range next() {
			p.Samples = append(p.Samples, next())
		}
		for range next() {
			p.Queues = append(p.Queues, next())
		}
		p.Latch = next()
		for range next() {
			p.Table = append(p.Table, next())
		}
		c.Parts = append(c.Parts, p)
	}
	for range next() {
		c.Windows = append(c.Windows, api.Window{Part: next(), Start: next(), Len: next()})
	}
	for range next() {
		c.Channels = append(c.Channels, api.Channel{Queuing: next() == 1, From: next(), A: next(), To: next(), B: next()})
	}
	return c
}

// same tells whether two configurations are the same; a list without elements may be nil or empty.
func same(a, b api.Config) bool {
	return a.Frame == b.Frame && a.Switch == b.Switch &&
		slices.Equal(a.Lines, b.Lines) && slices.Equal(a.Windows, b.Windows) && slices.Equal(a.Channels, b.Channels) &&
		slices.EqualFunc(a.Parts, b.Parts, samePart)
}

func samePart(a, b api.PartConf) bool {
	return a.Words == b.Words && a.Boards == b.Boards && a.Events == b.Events && a.Latch == b.Latch &&
		slices.Equal(a.Regions, b.Regions) && slices.Equal(a.Procs, b.Procs) && slices.Equal(a.Buffers, b.Buffers) && slices.Equal(a.Semas, b.Semas) &&
		slices.Equal(a.Samples, b.Samples) && slices.Equal(a.Queues, b.Queues) && slices.Equal(a.Table, b.Table)
}

// held holds May and Encode against the chapter's words.
func held(t *testing.T, c api.Config) {
	t.Helper()
	b, e := tables.Encode(c)
	if !mayBe(c) {
		if tables.May(c) || e != api.ErrArg || len(b) != 0 {
			t.Error("may not be", c, b, e)
		}
		return
	}
	if !tables.May(c) || e != api.OK || !bytes.Equal(b, bytesOf(t, numbersOf(c))) {
		t.Error("may be", c, b, e)
	}
}

// read holds Decode against the order of the numbers, whatever they are; R4: with an error all else is noughts.
func read(t *testing.T, l []int) {
	t.Helper()
	rest, want := formed(configForm, l)
	var whole api.Config
	switch {
	case want != api.OK:
	case len(rest) > 0:
		want = api.ErrForm
	case !mayBe(built(l)):
		want = api.ErrArg
	default:
		whole = built(l)
	}
	if c, e := tables.Decode(bytesOf(t, l)); e != want || !same(c, whole) {
		t.Error(l, c, e, want)
	}
}

// refused holds Decode against an error, beside which all else is noughts.
func refused(t *testing.T, what string, b []byte, want api.Errno) {
	t.Helper()
	if c, e := tables.Decode(b); e != want || !same(c, api.Config{}) {
		t.Error(what, b, c, e, want)
	}
}

// P7.1, P7.2: the chapter's example, number by number.
func TestTheExample(t *testing.T) {
	if !tables.May(small()) {
		t.Error("it may not be")
	}
	var want []byte
	for _, n := range exampleNumbers() {
		want = append(want, byte(n))
	}
	if b, e := tables.Encode(small()); e != api.OK || !bytes.Equal(b, want) {
		t.Error(b, e)
	}
	if c, e := tables.Decode(want); e != api.OK || !same(c, small()) {
		t.Error(c, e)
	}
}

// P7.1: the bytes of a configuration with several of everything, written out.
func TestBytesOfSeveral(t *testing.T) {
	want := bytesOf(t, slices.Concat(
		[]int{1000, 130, 4, 2, 0, 1, 1, 3},
		[]int{40, 3, 3, 5, 1, 10, 20, 0, 0, 2, 1},
		[]int{3, 1, 200, 90, 17, 1, 15, 0, 4096, 63, 0, 2, 4096, 6, 5, 1},
		[]int{3, 2, 2, 1, 8, 0, 3, 2, 5, 1, 0, 1, 0, 8, 8, 1, 4, 3, 300, 0, 4096, 2, 7, 1, 6, 7, 0, 1, 2, 3, 4, 0, 4},
		[]int{1, 0, 1, 3, 0, 0, 0, 0, 0, 0, 0, 0, 2, 3, 2, 3, 5, 4, 3, 0, 7, 0, 4, 4, 4, 4, 4, 4},
		[]int{64, 1, 63, 1, 0, 2, 0, 0, 0, 0, 0, 0, 0, 0, 0, 1, 1, 0, 1, 1, 2, 0, 0, 1, 1, 0, 1, 7, 0, 0, 0, 0, 0, 0, 0},
		[]int{4, 1, 5, 295, 0, 300, 1, 2, 400, 200, 0, 600, 400},
		[]int{4, 0, 0, 2, 1, 1, 1, 1, 2, 0, 1, 0, 2, 0, 0, 1, 1, 0, 0, 1, 1},
	))
	if b, e := tables.Encode(several()); e != api.OK || !bytes.Equal(b, want) {
		t.Error(b, e)
	}
	if c, e := tables.Decode(want); e != api.OK || !same(c, several()) {
		t.Error(c, e)
	}
}

// P7.1: each number at its least, at its greatest, one below, one above, and far off.
func TestMayAtEachNumber(t *testing.T) {
	last := func(c *api.Config) *api.PartConf { return &c.Parts[len(c.Parts)-1] }
	for _, b := range []struct {
		what        string
		least, most int
		set         func(c *api.Config, n int)
	}{
		{"Frame", 1, 4096, func(c *api.Config, n int) { c.Frame = n }},
		{"Switch of a frame of 1", 0, 1, func(c *api.Config, n int) { c.Switch = n }},
		{"Switch of a frame of 100", 0, 100, func(c *api.Config, n int) { c.Frame, c.Switch = 100, n }},
		{"Switch of the greatest frame", 0, 4096, func(c *api.Config, n int) { c.Frame, c.Switch = 4096, n }},
		{"a line", 0, 1, func(c *api.Config, n int) { c.Lines[0] = n }},
		{"the last line", 0, 1, func(c *api.Config, n int) { c.Lines = []int{0, 1, 0, n} }},
		{"Words", 1, 64, func(c *api.Config, n int) { last(c).Words = n }},
		{"Words below a region's end", 5, 64, func(c *api.Config, n int) { last(c).Words, last(c).Regions[0].Len = n, 5 }},
		{"From of a region", 0, 63, func(c *api.Config, n int) { last(c).Words, last(c).Regions[0].From = 64, n }},
		{"Len of a region", 1, 64, func(c *api.Config, n int) { last(c).Words, last(c).Regions[0].Len = 64, n }},
		{"Prio", 0, 15, func(c *api.Config, n int) { last(c).Procs[0].Prio = n }},
		{"Period", 0, 4096, func(c *api.Config, n int) { last(c).Procs[0].Period = n }},
		{"Limit", 0, 4096, func(c *api.Config, n int) { last(c).Procs[0].Limit = n }},
		{"Entry", 0, 63, func(c *api.Config, n int) { last(c).Procs[0].Entry = n }},
		{"Prio of the last one", 0, 15, func(c *api.Config, n int) { last(c).Procs = []api.ProcConf{{}, {}, {Prio: n}} }},
		{"Boards", 0, 4, func(c *api.Config, n int) { last(c).Boards = n }},
		{"Events", 0, 4, func(c *api.Config, n int) { last(c).Events = n }},
		{"Depth", 1, 8, func(c *api.Config, n int) { last(c).Buffers[0].Depth = n }},
		{"Depth of the last one", 1, 8, func(c *api.Config, n int) { last(c).Buffers = []api.BufferConf{{Depth: 1}, {Depth: n}} }},
		{"Most", 1, 8, func(c *api.Config, n int) { last(c).Semas[0].Most = n }},
		{"Most below Count", 3, 8, func(c *api.Config, n int) { last(c).Semas[0] = api.SemaConf{Count: 3, Most: n} }},
		{"Count up to a Most of 1", 0, 1, func(c *api.Config, n int) { last(c).Semas[0].Count = n }},
		{"Count up to a Most of 5", 0, 5, func(c *api.Config, n int) { last(c).Semas[0] = api.SemaConf{Count: n, Most: 5} }},
		{"Count up to a Most of 8", 0, 8, func(c *api.Config, n int) { last(c).Semas[0] = api.SemaConf{Count: n, Most: 8} }},
		{"Count of the last one", 0, 2, func(c *api.Config, n int) { last(c).Semas = []api.SemaConf{{Most: 8}, {Count: n, Most: 2}} }},
		{"Samples", 0, 4096, func(c *api.Config, n int) { last(c).Samples[0] = n }},
		{"the last one of Samples", 0, 4096, func(c *api.Config, n int) { last(c).Samples = []int{0, 0, n} }},
		{"Queues", 1, 8, func(c *api.Config, n int) { last(c).Queues[0] = n }},
		{"the last one of Queues", 1, 8, func(c *api.Config, n int) { last(c).Queues = []int{1, 1, n} }},
		{"Latch", 0, 8, func(c *api.Config, n int) { last(c).Latch = n }},
		{"the action of no fault", 0, 0, func(c *api.Config, n int) { last(c).Table[0] = n }},
		{"the next action", 0, 4, func(c *api.Config, n int) { last(c).Table[1] = n }},
		{"the last action", 0, 4, func(c *api.Config, n int) { last(c).Table[6] = n }},
		{"Part of a window", 0, 1, func(c *api.Config, n int) { c.Windows[0].Part = n }},
		{"Start", 0, 99, func(c *api.Config, n int) { c.Frame, c.Windows[0].Start = 100, n }},
		{"Len", 1, 100, func(c *api.Config, n int) { c.Frame, c.Windows[0].Len = 100, n }},
		{"Start of a window of 7", 0, 93, func(c *api.Config, n int) { c.Frame, c.Windows[0] = 100, api.Window{Start: n, Len: 7} }},
		{"Len of a window from 7 on", 1, 93, func(c *api.Config, n int) { c.Frame, c.Windows[0] = 100, api.Window{Start: 7, Len: n} }},
		{"Start of the next one", 1, 99, func(c *api.Config, n int) { c.Frame, c.Windows = 100, append(c.Windows, api.Window{Start: n, Len: 1}) }},
		{"Len of the next one", 1, 99, func(c *api.Config, n int) { c.Frame, c.Windows = 100, append(c.Windows, api.Window{Start: 1, Len: n}) }},
		{"Len of the one ahead", 1, 50, func(c *api.Config, n int) { c.Frame, c.Windows = 100, []api.Window{{Len: n}, {Start: 50, Len: 1}} }},
		{"From", 0, 0, func(c *api.Config, n int) { c.Channels[0].From = n }},
		{"To", 1, 1, func(c *api.Config, n int) { c.Channels[0].To = n }},
		{"A", 0, 0, func(c *api.Config, n int) { c.Channels[0].A = n }},
		{"B", 0, 0, func(c *api.Config, n int) { c.Channels[0].B = n }},
		{"B of more ports", 0, 3, func(c *api.Config, n int) { last(c).Samples, c.Channels[0].B = times(4, 0), n }},
	} {
		for _, n := range append(telling(), b.least-1, b.least, b.most, b.most+1) {
			c := leastOf()
			b.set(&c, n)
			if tables.May(c) != within(n, b.least, b.most) {
				t.Error(b.what, n, tables.May(c))
			}
			held(t, c)
		}
	}
}

// P7.1: each list as long as it may be, one longer, one shorter, and without elements.
func TestMayAtEachLength(t *testing.T) {
	regions := func(n int) []api.Region {
		var l []api.Region
		for from := range n {
			l = append(l, api.Region{From: from, Len: 1})
		}
		return l
	}
	windows := func(n int) []api.Window {
		var l []api.Window
		for start := range n {
			l = append(l, api.Window{Start: start, Len: 1})
		}
		return l
	}
	// Four parts have room for 16 channels, so that it hangs on their number alone.
	channels := func(n int) []api.Channel {
		var l []api.Channel
		for k := range n {
			from := k / 8 * 2
			l = append(l, api.Channel{Queuing: k%8 > 3, From: from, A: k % 4, To: from + 1, B: k % 4})
		}
		return l
	}
	for _, b := range []struct {
		what        string
		least, most int
		set         func(c *api.Config, n int)
	}{
		{"Parts", 1, 4, func(c *api.Config, n int) { c.Lines, c.Channels, c.Parts = nil, nil, times(n, c.Parts[0]) }},
		{"Lines", 0, 8, func(c *api.Config, n int) { c.Lines = times(n, 1) }},
		{"Windows", 1, 12, func(c *api.Config, n int) { c.Windows = windows(n) }},
		{"Channels", 0, 8, func(c *api.Config, n int) { c.Channels = channels(n) }},
		{"Regions", 0, 4, func(c *api.Config, n int) { c.Parts[0].Regions = regions(n) }},
		{"Procs", 1, 6, func(c *api.Config, n int) { c.Parts[0].Procs = times(n, api.ProcConf{}) }},
		{"Buffers", 0, 4, func(c *api.Config, n int) { c.Parts[0].Buffers = times(n, api.BufferConf{Depth: 1}) }},
		{"Semas", 0, 4, func(c *api.Config, n int) { c.Parts[0].Semas = times(n, api.SemaConf{Most: 1}) }},
		{"Samples", 0, 4, func(c *api.Config, n int) { c.Channels, c.Parts[0].Samples = nil, times(n, 1) }},
		{"Queues", 0, 4, func(c *api.Config, n int) { c.Channels, c.Parts[0].Queues = nil, times(n, 1) }},
		{"Table", 7, 7, func(c *api.Config, n int) { c.Parts[3].Table = make([]int, n) }},
	} {
		for n := range 16 {
			c := greatestOf()
			c.Windows = windows(1)
			b.set(&c, n)
			if tables.May(c) != within(n, b.least, b.most) {
				t.Error(b.what, n, tables.May(c))
			}
			held(t, c)
		}
	}
}

// P7.1: a list that is far too long may not be.
func TestMayOfGreatLists(t *testing.T) {
	const many = 1 << 16
	for what, set := range map[string]func(c *api.Config){
		"Parts":    func(c *api.Config) { c.Parts = times(many, c.Parts[0]) },
		"Lines":    func(c *api.Config) { c.Lines = make([]int, many) },
		"Windows":  func(c *api.Config) { c.Windows = times(many, api.Window{Len: 1}) },
		"Channels": func(c *api.Config) { c.Channels = times(many, api.Channel{To: 1}) },
		"Regions":  func(c *api.Config) { c.Parts[0].Regions = make([]api.Region, many) },
		"Procs":    func(c *api.Config) { c.Parts[0].Procs = make([]api.ProcConf, many) },
		"Buffers":  func(c *api.Config) { c.Parts[0].Buffers = make([]api.BufferConf, many) },
		"Semas":    func(c *api.Config) { c.Parts[0].Semas = make([]api.SemaConf, many) },
		"Samples":  func(c *api.Config) { c.Parts[0].Samples = make([]int, many) },
		"Queues":   func(c *api.Config) { c.Parts[0].Queues = make([]int, many) },
		"Table":    func(c *api.Config) { c.Parts[0].Table = make([]int, many) },
	} {
		c := leastOf()
		set(&c)
		if b, e := tables.Encode(c); tables.May(c) || e != api.ErrArg || len(b) != 0 {
			t.Error(what, e)
		}
	}
}

// P7.1: it's enough that one part of several may not be, whichever it is.
func TestMayOfEachPart(t *testing.T) {
	for n := range 4 {
		c := greatestOf()
		c.Parts[n].Words = 0
		if tables.May(c) {
			t.Error("words", n)
		}
		c = greatestOf()
		c.Parts[n].Table = []int{1, 0, 0, 0, 0, 0, 0}
		if tables.May(c) {
			t.Error("table", n)
		}
		c = greatestOf()
		c.Parts[n].Regions = []api.Region{{From: 0, Len: 2}, {From: 1, Len: 2}}
		if tables.May(c) {
			t.Error("regions", n)
		}
	}
}

// windowsOf are windows of a part, a start and a length each.
func windowsOf(rows [][3]int) []api.Window {
	var l []api.Window
	for _, r := range rows {
		l = append(l, api.Window{Part: r[0], Start: r[1], Len: r[2]})
	}
	return l
}

// P7.1: windows one behind the other, with room between or none, and such that begin within others or ahead of them.
func TestMayOfWindows(t *testing.T) {
	for _, w := range []struct {
		what string
		l    [][3]int
		want bool
	}{
		{"none", nil, false},
		{"the whole frame", [][3]int{{0, 0, 10}}, true},
		{"a tick more", [][3]int{{0, 0, 11}}, false},
		{"the last tick", [][3]int{{0, 9, 1}}, true},
		{"a tick behind the frame", [][3]int{{0, 10, 1}}, false},
		{"none of its ticks", [][3]int{{0, 3, 0}}, false},
		{"at the end, none of its ticks", [][3]int{{0, 10, 0}}, false},
		{"ticks below 0", [][3]int{{0, 3, -1}}, false},
		{"from below 0", [][3]int{{0, -1, 2}}, false},
		{"from below 0, up to the end", [][3]int{{0, -1, 11}}, false},
		{"one behind the other", [][3]int{{0, 0, 4}, {1, 4, 6}}, true},
		{"room between", [][3]int{{0, 1, 3}, {1, 6, 2}}, true},
		{"the same part", [][3]int{{1, 0, 4}, {1, 4, 6}}, true},
		{"one within the other", [][3]int{{0, 0, 4}, {1, 3, 6}}, false},
		{"twice the same", [][3]int{{0, 0, 4}, {0, 0, 4}}, false},
		{"one inside", [][3]int{{0, 0, 9}, {1, 3, 1}}, false},
		{"one around", [][3]int{{0, 3, 1}, {1, 0, 9}}, false},
		{"the other order", [][3]int{{0, 4, 6}, {1, 0, 4}}, false},
		{"the third within the second", [][3]int{{0, 0, 2}, {1, 2, 4}, {0, 5, 2}}, false},
		{"the third within the first", [][3]int{{0, 2, 4}, {1, 6, 2}, {0, 3, 1}}, false},
		{"the third ahead", [][3]int{{0, 2, 2}, {1, 5, 2}, {0, 0, 1}}, false},
		{"three", [][3]int{{0, 0, 2}, {1, 2, 4}, {0, 6, 4}}, true},
		{"the last one too long", [][3]int{{0, 0, 2}, {1, 2, 4}, {0, 6, 5}}, false},
		{"of a part that is not there", [][3]int{{2, 0, 4}}, false},
		{"the last one of such a part", [][3]int{{0, 0, 4}, {2, 4, 4}}, false},
		{"of a part below 0", [][3]int{{-1, 0, 4}}, false},
		{"an end past the greatest number", [][3]int{{0, 1, greatest}}, false},
		{"an end past it, by much", [][3]int{{0, greatest, greatest}}, false},
		{"an end past it, back to the frame", [][3]int{{0, least, least}}, false},
		{"an end past it, and one more", [][3]int{{0, 9, greatest}, {1, 0, 1}}, false},
		{"an end past it of the second", [][3]int{{0, 0, 1}, {1, 9, greatest}}, false},
		{"an end past it of the second, and one more", [][3]int{{0, 0, 1}, {1, 9, greatest}, {1, 3, 1}}, false},
		{"from the least number", [][3]int{{0, least, greatest}}, false},
	} {
		c := leastOf()
		c.Frame, c.Windows = 10, windowsOf(w.l)
		if tables.May(c) != w.want {
			t.Error(w.what, tables.May(c))
		}
		held(t, c)
	}
}

// P7.1: all windows of two in a frame of 4, and those of telling numbers, held against the chapter's words.
func TestMayOfAllWindows(t *testing.T) {
	c := leastOf()
	c.Frame = 4
	for a := -1; a <= 5; a++ {
		for b := -1; b <= 5; b++ {
			for d := -1; d <= 5; d++ {
				for e := -1; e <= 5; e++ {
					c.Windows = windowsOf([][3]int{{0, a, b}, {1, d, e}})
					if tables.May(c) != mayBe(c) {
						t.Error(c.Windows, tables.May(c))
					}
				}
			}
		}
	}
	c.Frame = 4096
	for _, start := range telling() {
		for _, size := range telling() {
			for _, l := range [][][3]int{{{0, start, size}}, {{0, 0, 7}, {1, start, size}}, {{0, start, size}, {1, 4090, 2}}} {
				c.Windows = windowsOf(l)
				if tables.May(c) != mayBe(c) {
					t.Error(c.Windows, tables.May(c))
				}
			}
		}
	}
}

// P7.1: channels between parts that there are and ports that there are, no port of two.
func TestMayOfChannels(t *testing.T) {
	sampling := func(from, a, to, b int) api.Channel { return api.Channel{From: from, A: a, To: to, B: b} }
	queuing := func(from, a, to, b int) api.Channel {
		return api.Channel{Queuing: true, From: from, A: a, To: to, B: b}
	}
	// Part 0 has two sampling ports and one queuing port, part 1 one and three, part 2 none and one.
	for _, w := range []struct {
		what string
		l    []api.Channel
		want bool
	}{
		{"none", nil, true},
		{"an empty list", []api.Channel{}, true},
		{"sampling", []api.Channel{sampling(0, 1, 1, 0)}, true},
		{"sampling, the other way", []api.Channel{sampling(1, 0, 0, 1)}, true},
		{"queuing", []api.Channel{queuing(0, 0, 1, 2)}, true},
		{"queuing, the other way", []api.Channel{queuing(1, 2, 0, 0)}, true},
		{"within one part", []api.Channel{sampling(0, 0, 0, 1)}, false},
		{"within one part, from a port to itself", []api.Channel{sampling(0, 0, 0, 0)}, false},
		{"within one part, queuing", []api.Channel{queuing(1, 0, 1, 1)}, false},
		{"from a port that is not there", []api.Channel{sampling(0, 2, 1, 0)}, false},
		{"to a port that is not there", []api.Channel{sampling(0, 0, 1, 1)}, false},
		{"from a queuing port that is not there", []api.Channel{queuing(0, 1, 1, 0)}, false},
		{"to a queuing port that is not there", []api.Channel{queuing(0, 0, 1, 3)}, false},
		{"from a part without such ports", []api.Channel{sampling(2, 0, 1, 0)}, false},
		{"to a part without such ports", []api.Channel{sampling(1, 0, 2, 0)}, false},
		{"to a part with such ports", []api.Channel{queuing(1, 0, 2, 0)}, true},
		{"from a part that is not there", []api.Channel{sampling(3, 0, 1, 0)}, false},
		{"to a part that is not there", []api.Channel{sampling(0, 0, 3, 0)}, false},
		{"from a part below 0", []api.Channel{sampling(-1, 0, 1, 0)}, false},
		{"to a part below 0", []api.Channel{sampling(0, 0, -1, 0)}, false},
		{"from a port below 0", []api.Channel{sampling(0, -1, 1, 0)}, false},
		{"to a port below 0", []api.Channel{sampling(0, 0, 1, -1)}, false},
		{"from the least port", []api.Channel{queuing(0, least, 1, 0)}, false},
		{"to the greatest port", []api.Channel{queuing(0, 0, 1, greatest)}, false},
		{"from the least part", []api.Channel{queuing(least, 0, 1, 0)}, false},
		{"to the greatest part", []api.Channel{queuing(0, 0, greatest, 0)}, false},
		{"the same ports, one sampling, one queuing", []api.Channel{sampling(0, 0, 1, 0), queuing(0, 0, 1, 0)}, true},
		{"twice the same", []api.Channel{sampling(0, 0, 1, 0), sampling(0, 0, 1, 0)}, false},
		{"the same one from", []api.Channel{queuing(1, 0, 0, 0), queuing(1, 0, 2, 0)}, false},
		{"the same one to", []api.Channel{queuing(0, 0, 1, 1), queuing(2, 0, 1, 1)}, false},
		{"to, and then from", []api.Channel{queuing(0, 0, 1, 1), queuing(1, 1, 2, 0)}, false},
		{"from, and then to", []api.Channel{queuing(1, 1, 2, 0), queuing(0, 0, 1, 1)}, false},
		{"there and back", []api.Channel{queuing(0, 0, 1, 1), queuing(1, 1, 0, 0)}, false},
		{"other ports", []api.Channel{queuing(0, 0, 1, 1), queuing(1, 0, 2, 0)}, true},
		{"the same numbers of ports, of other parts", []api.Channel{sampling(0, 0, 1, 0), queuing(1, 0, 2, 0), queuing(0, 0, 1, 1)}, true},
		{"the third with the first", []api.Channel{queuing(0, 0, 1, 1), sampling(0, 0, 1, 0), queuing(2, 0, 1, 1)}, false},
		{"the last one within one part", []api.Channel{queuing(0, 0, 1, 1), queuing(1, 0, 1, 2)}, false},
	} {
		c := leastOf()
		c.Parts = append(c.Parts, c.Parts[0])
		c.Parts[0].Samples, c.Parts[0].Queues = []int{1, 2}, []int{3}
		c.Parts[1].Samples, c.Parts[1].Queues = []int{1}, []int{3, 4, 5}
		c.Parts[2].Samples, c.Parts[2].Queues = nil, []int{6}
		c.Channels = w.l
		if tables.May(c) != w.want {
			t.Error(w.what, tables.May(c))
		}
		held(t, c)
	}
}

// P7.1: all pairs of channels among two parts of two ports of a kind, held against the chapter's words.
func TestMayOfAllChannels(t *testing.T) {
	c := leastOf()
	for n := range c.Parts {
		c.Parts[n].Samples, c.Parts[n].Queues = []int{1}, []int{1, 1}
	}
	var all []api.Channel
	for _, from := range []int{-1, 0, 1, 2} {
		for _, to := range []int{-1, 0, 1, 2} {
			for a := range 3 {
				for b := range 3 {
					all = append(all, api.Channel{From: from, A: a, To: to, B: b}, api.Channel{Queuing: true, From: from, A: a, To: to, B: b})
				}
			}
		}
	}
	for _, a := range all {
		for _, b := range all {
			c.Channels = []api.Channel{a, b}
			if tables.May(c) != mayBe(c) {
				t.Fatal(c.Channels, tables.May(c))
			}
		}
	}
}

// P7.1: lines are of parts that there are, however many these are.
func TestMayOfLines(t *testing.T) {
	for parts := 1; parts <= 4; parts++ {
		for _, line := range telling() {
			c := small()
			c.Parts = times(parts, c.Parts[0])
			c.Lines = []int{0, line}
			if tables.May(c) != within(line, 0, parts-1) {
				t.Error(parts, line)
			}
		}
	}
}

// P7.1, R4, R6: without anything a configuration may not be; nil and empty lists are the same.
func TestNilAndEmptyLists(t *testing.T) {
	held(t, api.Config{})
	held(t, api.Config{Frame: 1, Lines: []int{}, Parts: []api.PartConf{}, Windows: []api.Window{}, Channels: []api.Channel{}})
	held(t, api.Config{Frame: 10, Windows: []api.Window{{Len: 10}}})
	c := small()
	c.Parts = []api.PartConf{{}}
	held(t, c)
	c = small()
	c.Parts[0].Procs = []api.ProcConf{}
	held(t, c)
	c = small()
	c.Parts[0].Table = nil
	held(t, c)
	c = small()
	c.Lines, c.Channels = []int{}, []api.Channel{}
	p := &c.Parts[0]
	p.Regions, p.Buffers, p.Semas, p.Samples, p.Queues = []api.Region{}, []api.BufferConf{}, []api.SemaConf{}, []int{}, []int{}
	if b, e := tables.Encode(c); !tables.May(c) || e != api.OK || !bytes.Equal(b, bytesOf(t, exampleNumbers())) {
		t.Error(b, e)
	}
}

// P7.2: no bytes are not a configuration: one number at least is told.
func TestDecodeOfNoBytes(t *testing.T) {
	refused(t, "nil", nil, api.ErrMore)
	refused(t, "empty", []byte{}, api.ErrMore)
}

// P7.2: bytes that word does not take have its error, whatever is wrong with the numbers besides.
func TestDecodeOfWrongBytes(t *testing.T) {
	good := bytesOf(t, exampleNumbers())
	wrongBool := slices.Clone(good)
	wrongBool[11] = 2
	refused(t, "a number that goes on", []byte{128}, api.ErrMore)
	refused(t, "a nought on top", []byte{128, 0}, api.ErrForm)
	refused(t, "the last number goes on", append(slices.Clone(good[:31]), 128), api.ErrMore)
	refused(t, "the last number has a nought on top", append(slices.Clone(good[:31]), 128, 0), api.ErrForm)
	refused(t, "a wrong bool, then a number that goes on", append(slices.Clone(wrongBool), 255), api.ErrMore)
	refused(t, "a wrong count, then a number that goes on", []byte{10, 0, 65, 255}, api.ErrMore)
	refused(t, "numbers behind the end, and one that goes on", append(slices.Clone(good), 0, 255), api.ErrMore)
	refused(t, "numbers missing, and one that word does not take", []byte{10, 0, 128, 0}, api.ErrForm)
	refused(t, "numbers missing, and one that is too great", []byte{10, 0, 129, 128, 128, 128, 128, 32}, api.ErrForm)
	refused(t, "too many digits ahead of one that goes on", []byte{255, 255, 255, 255, 255, 255, 255}, api.ErrForm)
	refused(t, "one with a nought on top ahead of one that goes on", []byte{128, 0, 128}, api.ErrForm)
	for _, c := range ordinary() {
		b := bytesOf(t, numbersOf(c))
		refused(t, "goes on", append(slices.Clone(b), 128), api.ErrMore)
		refused(t, "nought on top", append(slices.Clone(b), 129, 0), api.ErrForm)
		refused(t, "goes on, ahead", append([]byte{128, 0}, b...), api.ErrForm)
	}
}

// P7.2: numbers that end anywhere have ErrMore; behind the end of them all there is ErrForm.
func TestDecodeOfTooFewAndTooMany(t *testing.T) {
	for _, c := range ordinary() {
		l := numbersOf(c)
		for n := range l {
			refused(t, "too few", bytesOf(t, l[:n]), api.ErrMore)
		}
		for _, more := range [][]int{{0}, {1}, {64}, {65}, {1 << 40}, {0, 0, 0}, exampleNumbers()} {
			refused(t, "too many", bytesOf(t, slices.Concat(l, more)), api.ErrForm)
		}
	}
}

// P7.2: each bool and each count of a configuration with some of everything, from both sides of what it may be.
func TestDecodeOfBoolsAndCounts(t *testing.T) {
	var l []int
	kinds := ""
	row := func(more string, numbers ...int) {
		kinds += more
		l = append(l, numbers...)
	}
	row("nncn", 10, 1, 1, 0)
	row("c", 2)
	row("ncnnb", 9, 1, 0, 2, 1)
	row("cnnnnb", 1, 0, 0, 0, 0, 1)
	row("ncnb", 1, 1, 3, 0)
	row("cnnb", 1, 1, 2, 1)
	row("ncncn", 2, 1, 3, 1, 4)
	row("ncnnnnnnn", 5, 7, 0, 0, 0, 0, 0, 0, 0)
	row("nc", 9, 0)
	row("cnnnnb", 1, 0, 0, 0, 0, 0)
	row("ncc", 0, 0, 0)
	row("ncncn", 0, 1, 3, 1, 4)
	row("ncnnnnnnn", 5, 7, 0, 0, 0, 0, 0, 0, 0)
	row("cnnn", 1, 0, 0, 10)
	row("cbnnnnbnnnn", 2, 1, 0, 0, 1, 0, 0, 1, 0, 0, 0)
	if _, e := tables.Decode(bytesOf(t, l)); e != api.OK || len(kinds) != len(l) {
		t.Fatal(e, len(kinds), len(l))
	}
	for at, kind := range kinds {
		for _, n := range []int{2, 3, 64, 65, 66, 4096, 1 << 40} {
			// Behind another count that may be other numbers are told: see the tests of each number.
			if kind == 'c' && n <= 64 {
				continue
			}
			w := slices.Clone(l)
			w[at] = n
			_, e := tables.Decode(bytesOf(t, w))
			if kind == 'n' && e != api.OK && e != api.ErrArg || kind != 'n' && e != api.ErrForm {
				t.Error(at, n, e)
			}
		}
	}
}

// P7.2: a count of 64 is read, and then it's a configuration that may not be; 65 is not read, whether there are as many or not.
func TestDecodeOfGreatCounts(t *testing.T) {
	lines := func(n int) []int {
		l := append([]int{10, 0, n}, make([]int, n)...)
		return append(l, exampleNumbers()[3:]...)
	}
	windows := func(n int) []int {
		l := append(exampleNumbers()[:27:27], n)
		for start := range n {
			l = append(l, 0, start, 1)
		}
		return append(l, 0)
	}
	table := func(n int) []int {
		l := append(exampleNumbers()[:19:19], n)
		l = append(l, make([]int, n)...)
		return append(l, exampleNumbers()[27:]...)
	}
	parts := func(n int) []int {
		l := []int{10, 0, 0, n}
		for range n {
			l = append(l, exampleNumbers()[4:27]...)
		}
		return append(l, exampleNumbers()[27:]...)
	}
	for what, made := range map[string]func(n int) []int{"lines": lines, "windows": windows, "table": table, "parts": parts} {
		refused(t, what, bytesOf(t, made(64)), api.ErrArg)
		refused(t, what, bytesOf(t, made(65)), api.ErrForm)
		refused(t, what, bytesOf(t, made(1000)), api.ErrForm)
		for _, n := range []int{0, 1, 7, 8, 9, 63, 64, 65, 66} {
			read(t, made(n))
		}
	}
	refused(t, "lines told, none there", bytesOf(t, []int{10, 0, 64}), api.ErrMore)
	refused(t, "too many lines told, none there", bytesOf(t, []int{10, 0, 65}), api.ErrForm)
	refused(t, "parts told, none there", bytesOf(t, []int{10, 0, 0, 64}), api.ErrMore)
	refused(t, "as many parts as a number tells, none there", bytesOf(t, []int{10, 0, 0, 1 << 40}), api.ErrForm)
}

// P7.2: Boards, Events, Latch and a semaphore's Count are numbers, no counts of lists: above 64 they may not be, and that is ErrArg.
func TestDecodeOfNumbersThatAreNoCounts(t *testing.T) {
	c := leastOf()
	for what, set := range map[string]func(n int){
		"Boards": func(n int) { c.Parts[1].Boards = n },
		"Events": func(n int) { c.Parts[1].Events = n },
		"Latch":  func(n int) { c.Parts[1].Latch = n },
		"Count":  func(n int) { c.Parts[1].Semas = []api.SemaConf{{Count: n, Most: 1}} },
		"Words":  func(n int) { c.Parts[1].Words = n },
		"Frame":  func(n int) { c.Frame = n },
		"Switch": func(n int) { c.Switch = n },
	} {
		for _, n := range []int{65, 5000, 1 << 40} {
			c = leastOf()
			set(n)
			l := numbersOf(c)
			if what == "Frame" && n == 65 {
				continue
			}
			if !slices.Contains(l, n) {
				t.Fatal(what)
			}
			refused(t, what, bytesOf(t, l), api.ErrArg)
		}
	}
}

// P7.2: each number of each ordinary configuration, set to telling ones, left out, and doubled: the first error is told.
func TestDecodeNumberByNumber(t *testing.T) {
	for _, c := range ordinary() {
		l := numbersOf(c)
		for at := range l {
			for _, n := range telling() {
				if !within(n, 0, 1<<40) {
					continue
				}
				w := slices.Clone(l)
				w[at] = n
				read(t, w)
				read(t, slices.Insert(slices.Clone(l), at, n))
			}
			read(t, slices.Delete(slices.Clone(l), at, at+1))
		}
	}
}

// P7.2, R2: of two numbers that are wrong the first one is told, and numbers that are missing behind it are not.
func TestDecodeOfTwoWrongNumbers(t *testing.T) {
	for _, l := range [][]int{exampleNumbers(), numbersOf(leastOf())} {
		for first := range l {
			for second := first + 1; second < len(l); second++ {
				for _, a := range []int{0, 2, 65} {
					for _, b := range []int{1, 2, 65} {
						w := slices.Clone(l)
						w[first], w[second] = a, b
						read(t, w)
						read(t, w[:second])
						read(t, append(w, 2))
					}
				}
			}
		}
	}
	refused(t, "a wrong bool, and too few numbers", bytesOf(t, []int{10, 0, 0, 1, 1, 0, 1, 0, 0, 0, 0, 2}), api.ErrForm)
	refused(t, "too few numbers ahead of the bool", bytesOf(t, []int{10, 0, 0, 1, 1, 0, 1, 0, 0, 0, 0}), api.ErrMore)
	refused(t, "a frame that may not be, and too few numbers", bytesOf(t, []int{0, 0, 0, 1}), api.ErrMore)
	refused(t, "a frame that may not be, and a wrong count", bytesOf(t, []int{0, 0, 65}), api.ErrForm)
	refused(t, "a frame that may not be, and too many numbers", bytesOf(t, append([]int{0}, append(exampleNumbers()[1:], 0)...)), api.ErrForm)
	refused(t, "a frame that may not be", bytesOf(t, append([]int{0}, exampleNumbers()[1:]...)), api.ErrArg)
}

// P7.2, R1: all short rows of a few numbers, and of a few bytes.
func TestDecodeOfShortRows(t *testing.T) {
	var rows func(l []int, left int)
	rows = func(l []int, left int) {
		read(t, l)
		if left == 0 {
			return
		}
		for _, n := range []int{0, 1, 2, 64, 65} {
			rows(append(slices.Clone(l), n), left-1)
		}
	}
	rows(nil, 5)
	for a := range 256 {
		for b := range 256 {
			row := []byte{byte(a), byte(b)}
			want := api.ErrMore
			if _, e := word.GetAll(row); e != api.OK {
				want = e
			}
			if c, e := tables.Decode(row); e != want || !same(c, api.Config{}) {
				t.Fatal(row, c, e)
			}
		}
	}
}

// chance is a row of numbers that hangs on its start alone.
type chance uint64

func (c *chance) below(n int) int {
	*c = *c*6364136223846793005 + 1442695040888963407
	return int(uint64(*c)>>33) % n
}

func (c *chance) is() bool { return c.below(2) == 1 }

// part is one that may be.
func (c *chance) part() api.PartConf {
	p := api.PartConf{Words: 1 + c.below(64), Boards: c.below(5), Events: c.below(5), Latch: c.below(9), Table: []int{0}}
	for range 6 {
		p.Table = append(p.Table, c.below(5))
	}
	for from := 0; from < p.Words && len(p.Regions) < 4; {
		r := api.Region{From: from, Len: 1 + c.below(p.Words-from), Write: c.is()}
		if c.is() {
			p.Regions = append(p.Regions, r)
		}
		from += r.Len
	}
	for range 1 + c.below(6) {
		p.Procs = append(p.Procs, api.ProcConf{Prio: c.below(16), Period: c.below(4097), Limit: c.below(4097), Entry: c.below(64), Auto: c.is()})
	}
	for range c.below(5) {
		p.Buffers = append(p.Buffers, api.BufferConf{Depth: 1 + c.below(8), Ranked: c.is()})
	}
	for range c.below(5) {
		most := 1 + c.below(8)
		p.Semas = append(p.Semas, api.SemaConf{Count: c.below(most + 1), Most: most, Ranked: c.is()})
	}
	for range c.below(5) {
		p.Samples = append(p.Samples, c.below(4097))
	}
	for range c.below(5) {
		p.Queues = append(p.Queues, 1+c.below(8))
	}
	return p
}

// config is one that may be.
func (c *chance) config() api.Config {
	f := api.Config{Frame: 1 + c.below(4096)}
	f.Switch = c.below(f.Frame + 1)
	for range 1 + c.below(4) {
		f.Parts = append(f.Parts, c.part())
	}
	for range c.below(9) {
		f.Lines = append(f.Lines, c.below(len(f.Parts)))
	}
	for start := c.below(f.Frame); start < f.Frame && len(f.Windows) < 12; {
		w := api.Window{Part: c.below(len(f.Parts)), Start: start, Len: 1 + c.below(f.Frame-start)}
		f.Windows = append(f.Windows, w)
		start += w.Len + c.below(3)
	}
	for range 40 {
		ch := api.Channel{Queuing: c.is(), From: c.below(4), A: c.below(4), To: c.below(4), B: c.below(4)}
		more := f
		if more.Channels = append(slices.Clone(f.Channels), ch); mayBe(more) {
			f = more
		}
	}
	return f
}

// P7.3: what was encoded is decoded as it was, and encoded again as the same bytes.
func TestWhatIsEncodedIsDecoded(t *testing.T) {
	l := ordinary()
	c := chance(1)
	for range 2000 {
		l = append(l, c.config())
	}
	for _, want := range l {
		held(t, want)
		b, e := tables.Encode(want)
		if e != api.OK {
			t.Fatal(want, e)
		}
		got, e := tables.Decode(b)
		if e != api.OK || !same(got, want) {
			t.Fatal(want, got, e)
		}
		if again, e := tables.Encode(got); e != api.OK || !bytes.Equal(again, b) {
			t.Fatal(want, again, e)
		}
	}
}

// P7.3: bytes of which some number is another one are refused, or are decoded and then encoded as the same bytes.
func TestWhatIsDecodedIsEncoded(t *testing.T) {
	row := chance(2)
	decoded := 0
	for range 4000 {
		l := numbersOf(row.config())
		for range 1 + row.below(3) {
			l[row.below(len(l))] = row.below(5)
		}
		read(t, l)
		b := bytesOf(t, l)
		c, e := tables.Decode(b)
		if e != api.OK {
			continue
		}
		decoded++
		if again, e := tables.Encode(c); e != api.OK || !bytes.Equal(again, b) || !tables.May(c) {
			t.Fatal(b, again, e)
		}
	}
	if decoded < 500 {
		t.Error("too few that are decoded", decoded)
	}
}

// roomy is a list with something behind its end, which is the caller's.
func roomy[T any](l []T, behind T) []T {
	return append(slices.Clone(l), behind)[:len(l)]
}

// behindOf is what stands behind a list's end.
func behindOf[T any](l []T) T { return l[:len(l)+1][len(l)] }

// R3: a configuration that is handed in stays as it was, and so does what stands behind the ends of its lists.
func TestConfigurationStays(t *testing.T) {
	for _, whole := range []bool{true, false} {
		c := several()
		p := &c.Parts[0]
		p.Regions = roomy(p.Regions, api.Region{From: 77, Len: 78, Write: true})
		p.Procs = roomy(p.Procs, api.ProcConf{Prio: 77, Auto: true})
		p.Buffers = roomy(p.Buffers, api.BufferConf{Depth: 77})
		p.Semas = roomy(p.Semas, api.SemaConf{Most: 77})
		p.Samples, p.Queues, p.Table = roomy(p.Samples, 77), roomy(p.Queues, 78), roomy(p.Table, 79)
		c.Lines = roomy(c.Lines, 77)
		c.Parts = roomy(c.Parts, api.PartConf{Words: 77})
		c.Windows = roomy(c.Windows, api.Window{Len: 77})
		c.Channels = roomy(c.Channels, api.Channel{From: 77})
		p = &c.Parts[0]
		want := several()
		if !whole {
			c.Windows[3].Start, want.Windows[3].Start = 0, 0
		}
		b, e := tables.Encode(c)
		if tables.May(c) != whole || (e == api.OK) != whole || !same(c, want) {
			t.Error(whole, c, e)
		}
		if behindOf(p.Regions).From != 77 || behindOf(p.Procs).Prio != 77 || behindOf(p.Buffers).Depth != 77 || behindOf(p.Semas).Most != 77 || behindOf(p.Samples) != 77 || behindOf(p.Queues) != 78 || behindOf(p.Table) != 79 {
			t.Error("behind a part's lists", *p)
		}
		if behindOf(c.Lines) != 77 || behindOf(c.Parts).Words != 77 || behindOf(c.Windows).Len != 77 || behindOf(c.Channels).From != 77 {
			t.Error("behind the lists")
		}
		for at := range b {
			b[at] = 99
		}
		if !same(c, want) {
			t.Error("by its bytes", c)
		}
	}
}

// R3, R5: bytes that are handed in stay as they were, also behind their end, and what was answered does not change with them.
func TestBytesStay(t *testing.T) {
	b := bytesOf(t, numbersOf(several()))
	given := roomy(b, 77)
	c, e := tables.Decode(given)
	if e != api.OK || !bytes.Equal(given, b) || behindOf(given) != 77 {
		t.Error(given, e)
	}
	for at := range given {
		given[at] = 99
	}
	if !same(c, several()) {
		t.Error(c)
	}
	if again, e := tables.Encode(c); e != api.OK || !bytes.Equal(again, b) {
		t.Error(again, e)
	}
}

// scrawled overwrites a list, and appends to it, which reaches what stands behind its end.
func scrawled[T any](l []T, over T) {
	for at := range l {
		l[at] = over
	}
	_ = append(l, over, over)
}

// R3: the lists of one answer share nothing with each other, nor with those of another answer.
func TestAnswersAreTheCallersOwn(t *testing.T) {
	b := bytesOf(t, numbersOf(greatestOf()))
	other, _ := tables.Decode(b)
	for n := range 4 {
		for list := range 11 {
			c, e := tables.Decode(b)
			if e != api.OK {
				t.Fatal(e)
			}
			want := greatestOf()
			scrawl(&c, n, list)
			scrawl(&want, n, list)
			if !same(c, want) {
				t.Error(n, list, c)
			}
			if !same(other, greatestOf()) {
				t.Fatal("another answer", n, list)
			}
		}
	}
	first, _ := tables.Encode(greatestOf())
	second, _ := tables.Encode(greatestOf())
	scrawled(first, 99)
	if !bytes.Equal(second, b) {
		t.Error("bytes of another answer")
	}
}

// scrawl overwrites one list of a configuration, or of one of its parts.
func scrawl(c *api.Config, n, list int) {
	p := &c.Parts[n]
	switch list {
	case 0:
		scrawled(p.Regions, api.Region{From: 91})
	case 1:
		scrawled(p.Procs, api.ProcConf{Prio: 92})
	case 2:
		scrawled(p.Buffers, api.BufferConf{Depth: 93})
	case 3:
		scrawled(p.Semas, api.SemaConf{Count: 94})
	case 4:
		scrawled(p.Samples, 95)
	case 5:
		scrawled(p.Queues, 96)
	case 6:
		scrawled(p.Table, 97)
	case 7:
		scrawled(c.Lines, 98)
	case 8:
		scrawled(c.Windows, api.Window{Len: 99})
	case 9:
		scrawled(c.Channels, api.Channel{From: 100})
	case 10:
		scrawled(c.Parts, api.PartConf{Words: 101})
	}
}

// R5: what is asked in between, and what was wrong with it, changes no answer.
func TestAskedAgain(t *testing.T) {
	wrong := several()
	wrong.Switch = 1001
	good := bytesOf(t, numbersOf(several()))
	for range 3 {
		held(t, several())
		held(t, wrong)
		refused(t, "too few", good[:len(good)-1], api.ErrMore)
		refused(t, "too many", append(slices.Clone(good), 0), api.ErrForm)
		refused(t, "may not be", bytesOf(t, numbersOf(wrong)), api.ErrArg)
		if c, e := tables.Decode(good); e != api.OK || !same(c, several()) {
			t.Error(c, e)
		}
	}
}
