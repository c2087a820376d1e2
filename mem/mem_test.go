package mem_test

import (
	"math"
	"math/big"
	"slices"
	"testing"

	"quarterdeck/api"
	"quarterdeck/mem"
)

// telling are numbers around 0, around the limits, and the least and the greatest ones.
func telling() []int {
	return []int{math.MinInt, math.MinInt + 1, math.MinInt + 2, -1 << 32, -65, -64, -63, -2, -1, 0, 1, 2, 3, 4, 5, 31, 32, 33, 62, 63, 64, 65, 66, 1 << 32, math.MaxInt - 64, math.MaxInt - 63, math.MaxInt - 2, math.MaxInt - 1, math.MaxInt}
}

// holds tells by numbers without bound whether a word is among a region's, wherever that ends.
func holds(r api.Region, at int) bool {
	if r.From < 0 || r.Len < 1 {
		return false
	}
	end := new(big.Int).Add(big.NewInt(int64(r.From)), big.NewInt(int64(r.Len)))
	return r.From <= at && big.NewInt(int64(at)).Cmp(end) < 0
}

// inside tells by numbers without bound whether a region ends where the words end, or ahead of it.
func inside(r api.Region, words int) bool {
	end := new(big.Int).Add(big.NewInt(int64(r.From)), big.NewInt(int64(r.Len)))
	return r.From >= 0 && r.Len >= 1 && end.Cmp(big.NewInt(int64(words))) <= 0
}

// mayBe goes word by word, and counts the regions of each.
func mayBe(l []api.Region, words int) bool {
	if words < 1 || words > 64 || len(l) > 4 {
		return false
	}
	for _, r := range l {
		if !inside(r, words) {
			return false
		}
	}
	for at := range words {
		count := 0
		for _, r := range l {
			if holds(r, at) {
				count++
			}
		}
		if count > 1 {
			return false
		}
	}
	return true
}

// mayTouch is the error that the document asks for.
func mayTouch(words int, l []api.Region, at int, write bool) api.Errno {
	if at < 0 || at >= words {
		return api.ErrNone
	}
	for _, r := range l {
		if holds(r, at) && (r.Write || !write) {
			return api.OK
		}
	}
	return api.ErrAccess
}

// memory has words that differ from each other, and from 0.
func memory(words int) []int {
	m := make([]int, words)
	for at := range m {
		m[at] = 1000 + at
	}
	return m
}

// lists are regions that may be and such that may not be: none, nil, one, those that touch, share words, or hold one another, too many, too far.
func lists() [][]api.Region {
	l := [][]api.Region{
		nil,
		{},
		{{From: 2, Len: 2}},
		{{From: 2, Len: 2, Write: true}},
		{{From: 0, Len: 2, Write: true}, {From: 3, Len: 1}},
		{{From: 3, Len: 1}, {From: 0, Len: 2, Write: true}},
		{{From: 0, Len: 2}, {From: 2, Len: 2, Write: true}},
		{{From: 0, Len: 3}, {From: 2, Len: 2, Write: true}},
		{{From: 2, Len: 2, Write: true}, {From: 0, Len: 3}},
		{{From: 0, Len: 5, Write: true}, {From: 1, Len: 2}},
		{{From: 1, Len: 2}, {From: 0, Len: 5, Write: true}},
		{{From: 1, Len: 1}, {From: 1, Len: 1, Write: true}},
		{{From: 0, Len: 1}, {From: 1, Len: 1, Write: true}, {From: 2, Len: 1}, {From: 3, Len: 1, Write: true}},
		{{From: 0, Len: 1}, {From: 1, Len: 1}, {From: 2, Len: 1}, {From: 3, Len: 1}, {From: 4, Len: 1, Write: true}},
		{{From: 0, Len: 1}, {From: 2, Len: 1}, {From: 4, Len: 1}, {From: 0, Len: 1, Write: true}},
		{{From: -1, Len: 3, Write: true}, {From: 1, Len: 0, Write: true}, {From: 2, Len: -1, Write: true}},
	}
	for _, from := range telling() {
		for _, size := range telling() {
			l = append(l, []api.Region{{From: from, Len: size, Write: true}}, []api.Region{{From: 0, Len: 1}, {From: from, Len: size}})
		}
	}
	return l
}

// P3.1: the document's bounds, one by one, each from both sides.
func TestMayAtEachBound(t *testing.T) {
	ones := func(count int) []api.Region {
		var l []api.Region
		for from := range count {
			l = append(l, api.Region{From: from, Len: 1})
		}
		return l
	}
	one := func(from, size int) []api.Region { return []api.Region{{From: from, Len: size}} }
	two := func(a, b api.Region) []api.Region { return []api.Region{a, b} }
	for _, c := range []struct {
		what  string
		l     []api.Region
		words int
		want  bool
	}{
		{"no words", nil, 0, false},
		{"one word", nil, 1, true},
		{"one word, with a region", one(0, 1), 1, true},
		{"as many words as may be", nil, 64, true},
		{"as many words, in one region", one(0, 64), 64, true},
		{"a word too many", nil, 65, false},
		{"a word too many, in no region", one(0, 64), 65, false},
		{"words below 0", nil, -1, false},
		{"the least number of words", nil, math.MinInt, false},
		{"the greatest number of words", nil, math.MaxInt, false},
		{"four regions", ones(4), 8, true},
		{"five regions", ones(5), 8, false},
		{"an empty list", []api.Region{}, 3, true},
		{"From at 0", one(0, 2), 8, true},
		{"From below 0", one(-1, 2), 8, false},
		{"the least From", one(math.MinInt, 2), 8, false},
		{"the least From, and an end that wraps", one(math.MinInt, math.MinInt), 8, false},
		{"the greatest From", one(math.MaxInt, 1), 8, false},
		{"Len 1", one(3, 1), 8, true},
		{"Len 0", one(3, 0), 8, false},
		{"Len below 0", one(3, -1), 8, false},
		{"the least Len", one(3, math.MinInt), 8, false},
		{"the greatest Len", one(3, math.MaxInt), 8, false},
		{"the greatest Len from 0", one(0, math.MaxInt), 8, false},
		{"both the greatest", one(math.MaxInt, math.MaxInt), 8, false},
		{"an end just at words", one(6, 2), 8, true},
		{"an end just beyond words", one(6, 3), 8, false},
		{"From at words", one(8, 1), 8, false},
		{"From at words, without a word", one(8, 0), 8, false},
		{"From at the last word of 64", one(63, 1), 64, true},
		{"From behind the last word of 64", one(64, 1), 64, false},
		{"regions that touch", two(api.Region{From: 1, Len: 2}, api.Region{From: 3, Len: 2}), 8, true},
		{"regions that touch, the later first", two(api.Region{From: 3, Len: 2}, api.Region{From: 1, Len: 2}), 8, true},
		{"regions that share a word", two(api.Region{From: 1, Len: 3}, api.Region{From: 3, Len: 2}), 8, false},
		{"regions that share a word, the later first", two(api.Region{From: 3, Len: 2}, api.Region{From: 1, Len: 3}), 8, false},
		{"a region twice", two(api.Region{From: 3, Len: 2}, api.Region{From: 3, Len: 2}), 8, false},
		{"a region in another one", two(api.Region{From: 0, Len: 8}, api.Region{From: 3, Len: 2}), 8, false},
		{"a region around another one", two(api.Region{From: 3, Len: 2}, api.Region{From: 0, Len: 8}), 8, false},
		{"the first and the last share a word", append(ones(3), api.Region{From: 0, Len: 1}), 8, false},
		{"the two last share a word", append(ones(3), api.Region{From: 2, Len: 1}), 8, false},
		{"the last one alone is wrong", append(ones(3), api.Region{From: 8, Len: 1}), 8, false},
	} {
		if got := mem.May(c.l, c.words); got != c.want {
			t.Errorf("%s: %v", c.what, got)
		}
	}
}

// P3.1: May hangs on no region's Write.
func TestMayWhateverIsWritten(t *testing.T) {
	for _, l := range lists() {
		all := slices.Clone(l)
		for i := range all {
			all[i].Write = !all[i].Write
		}
		for _, words := range []int{1, 4, 5, 64} {
			if mem.May(l, words) != mem.May(all, words) {
				t.Error(l, words)
			}
		}
	}
}

// P3.1: all that there is of one, two and three regions in few words, and lists of telling numbers.
func TestMayByWords(t *testing.T) {
	var small []api.Region
	for from := -1; from <= 4; from++ {
		for size := -1; size <= 5; size++ {
			small = append(small, api.Region{From: from, Len: size})
		}
	}
	for words := -1; words <= 5; words++ {
		for _, a := range small {
			checkMay(t, []api.Region{a}, words)
			for _, b := range small {
				checkMay(t, []api.Region{a, b}, words)
				for _, c := range small {
					checkMay(t, []api.Region{a, b, c}, words)
				}
			}
		}
	}
	for _, l := range lists() {
		for _, words := range telling() {
			checkMay(t, l, words)
		}
	}
}

func checkMay(t *testing.T, l []api.Region, words int) {
	t.Helper()
	if got, want := mem.May(l, words), mayBe(l, words); got != want {
		t.Fatal(l, words, got)
	}
}

// P3.2: the document's example, and a word of each kind.
func TestLoadOfEachKind(t *testing.T) {
	m := []int{10, -11, math.MinInt, math.MaxInt, 14}
	l := []api.Region{{From: 2, Len: 2}}
	for _, c := range []struct {
		at, want int
		e        api.Errno
	}{
		{math.MinInt, 0, api.ErrNone}, {-1, 0, api.ErrNone}, {0, 0, api.ErrAccess}, {1, 0, api.ErrAccess}, {2, math.MinInt, api.OK}, {3, math.MaxInt, api.OK}, {4, 0, api.ErrAccess}, {5, 0, api.ErrNone}, {math.MaxInt, 0, api.ErrNone},
	} {
		if got, e := mem.Load(m, l, c.at); got != c.want || e != c.e {
			t.Error(c.at, got, e)
		}
	}
}

// P3.2: a word of each kind: not there, in no region, in a region without Write, in one with it, in both.
func TestStoreOfEachKind(t *testing.T) {
	m := []int{10, 11, 12, 13}
	l := []api.Region{{From: 1, Len: 2}, {From: 2, Len: 2, Write: true}}
	for _, c := range []struct {
		at   int
		want []int
		e    api.Errno
	}{
		{math.MinInt, nil, api.ErrNone}, {-1, nil, api.ErrNone}, {0, nil, api.ErrAccess}, {1, nil, api.ErrAccess}, {2, []int{10, 11, 99, 13}, api.OK}, {3, []int{10, 11, 12, 99}, api.OK}, {4, nil, api.ErrNone}, {math.MaxInt, nil, api.ErrNone},
	} {
		if got, e := mem.Store(m, l, c.at, 99); !slices.Equal(got, c.want) || e != c.e {
			t.Error(c.at, got, e)
		}
	}
}

// P3.2: a word that is not there is ErrNone, also where a region holds it; regions may go on behind the last word.
func TestRegionsBeyondTheMemory(t *testing.T) {
	for _, size := range []int{3, 4, 64, 1 << 40, math.MaxInt - 1, math.MaxInt} {
		l := []api.Region{{From: 1, Len: size, Write: true}}
		for at, want := range map[int]api.Errno{-1: api.ErrNone, 0: api.ErrAccess, 1: api.OK, 2: api.OK, 3: api.ErrNone, 4: api.ErrNone, math.MaxInt: api.ErrNone} {
			if _, e := mem.Load(memory(3), l, at); e != want {
				t.Error("load", size, at, e)
			}
			if _, e := mem.Store(memory(3), l, at, 5); e != want {
				t.Error("store", size, at, e)
			}
		}
	}
}

// P3.2: a region with a From below 0, or with a Len below 1, has no words.
func TestRegionsWithoutWords(t *testing.T) {
	for _, r := range []api.Region{{From: -1, Len: 2}, {From: -1, Len: math.MaxInt}, {From: math.MinInt, Len: math.MaxInt}, {From: math.MinInt, Len: math.MinInt}, {From: 0, Len: 0}, {From: 0, Len: -1}, {From: 0, Len: math.MinInt}, {From: 1, Len: math.MinInt}, {From: -3, Len: -3}, {From: math.MaxInt, Len: math.MaxInt}} {
		r.Write = true
		for at := range 3 {
			if v, e := mem.Load(memory(3), []api.Region{r}, at); v != 0 || e != api.ErrAccess {
				t.Error("load", r, at, v, e)
			}
			if n, e := mem.Store(memory(3), []api.Region{r}, at, 5); len(n) != 0 || e != api.ErrAccess {
				t.Error("store", r, at, n, e)
			}
		}
	}
}

// P3.2: more regions than May allows, and more words, are gone through all the same.
func TestManyRegionsAndWords(t *testing.T) {
	var l []api.Region
	for from := range 50 {
		l = append(l, api.Region{From: 2 * from, Len: 1, Write: from%2 == 0})
	}
	m := memory(100)
	for at := range m {
		checkTouch(t, m, l, at)
	}
}

// P3.2, P3.3, R4: each memory, list and word of the telling ones; what is stored is loaded, and all other words stay.
func TestTouchByWords(t *testing.T) {
	for _, words := range []int{0, 1, 2, 4, 5, 64, 65} {
		m := memory(words)
		for _, l := range lists() {
			for _, at := range telling() {
				checkTouch(t, m, l, at)
			}
		}
	}
}

func checkTouch(t *testing.T, m []int, l []api.Region, at int) {
	t.Helper()
	v, e := mem.Load(m, l, at)
	if want := mayTouch(len(m), l, at, false); e != want || e == api.OK && v != m[at] || e != api.OK && v != 0 {
		t.Fatal("load", len(m), l, at, v, e)
	}
	n, e := mem.Store(m, l, at, -7)
	if want := mayTouch(len(m), l, at, true); e != want {
		t.Fatal("store", len(m), l, at, e)
	}
	if e != api.OK {
		if len(n) != 0 {
			t.Fatal("store with an error", len(m), l, at, n)
		}
		return
	}
	if v, e := mem.Load(n, l, at); v != -7 || e != api.OK {
		t.Fatal("load of what was stored", len(m), l, at, v, e)
	}
	n[at] = m[at]
	if !slices.Equal(n, m) {
		t.Fatal("another word was touched", len(m), l, at, n)
	}
}

// P3.3: any value is stored and loaded as it is, one over the other.
func TestStoredIsLoaded(t *testing.T) {
	l := []api.Region{{From: 0, Len: 64, Write: true}}
	m := memory(64)
	want := memory(64)
	for i, value := range telling() {
		at := i * 7 % 64
		n, e := mem.Store(m, l, at, value)
		if e != api.OK {
			t.Fatal(at, value, e)
		}
		want[at] = value
		if m = n; !slices.Equal(m, want) {
			t.Fatal(at, value, m)
		}
		for at := range m {
			if v, e := mem.Load(m, l, at); v != want[at] || e != api.OK {
				t.Fatal(at, v, e)
			}
		}
	}
}

// P3.3: who has no regions can touch nothing.
func TestWithoutRegions(t *testing.T) {
	for _, l := range [][]api.Region{nil, {}} {
		for at := range 64 {
			if v, e := mem.Load(memory(64), l, at); v != 0 || e != api.ErrAccess {
				t.Error("load", at, v, e)
			}
			if n, e := mem.Store(memory(64), l, at, 5); len(n) != 0 || e != api.ErrAccess {
				t.Error("store", at, n, e)
			}
		}
	}
}

// R2: a word that is not there is told ahead of one that may not be touched; R6: no words, nil or empty.
func TestWithoutWords(t *testing.T) {
	for _, m := range [][]int{nil, {}} {
		for _, l := range lists() {
			for _, at := range telling() {
				if v, e := mem.Load(m, l, at); v != 0 || e != api.ErrNone {
					t.Fatal("load", l, at, v, e)
				}
				if n, e := mem.Store(m, l, at, 5); len(n) != 0 || e != api.ErrNone {
					t.Fatal("store", l, at, n, e)
				}
			}
		}
	}
}

// R3: what is handed in stays, also behind its length, and what is answered shares nothing with it.
func TestArgumentsStay(t *testing.T) {
	m := memory(8)
	l := []api.Region{{From: 3, Len: 2}, {From: 0, Len: 2, Write: true}, {From: 0, Len: -1}, {From: 7, Len: 9}}
	given, regions := slices.Clone(m), slices.Clone(l)
	mem.May(l, 8)
	mem.May(l[:2], 8)
	mem.Load(m[:4], l[:2], 0)
	n, _ := mem.Store(m[:4], l[:2], 0, 5)
	again, _ := mem.Store(m[:4], l[:2], 0, 5)
	if !slices.Equal(m, given) || !slices.Equal(l, regions) {
		t.Fatal("an argument was changed", m, l)
	}
	want := slices.Clone(n)
	for at := range m {
		m[at] = -1
	}
	for at := range again {
		again[at] = -2
	}
	_ = append(again, -3)
	if !slices.Equal(n, want) {
		t.Error("an answer was changed", n)
	}
	for at := range n {
		n[at] = -4
	}
	_ = append(n, -4)
	if slices.Contains(m, -4) || slices.Contains(again, -4) {
		t.Error("an answer is shared", m, again)
	}
}

// R5: what is asked again is answered again, whatever was asked in between.
func TestAnswersHangOnArgumentsAlone(t *testing.T) {
	m := memory(5)
	for _, l := range lists() {
		for at := -1; at <= 5; at++ {
			may := mem.May(l, 5)
			v, e := mem.Load(m, l, at)
			n, f := mem.Store(m, l, at, 3)
			mem.May(nil, 1)
			mem.Load(memory(9), []api.Region{{From: 0, Len: 9}}, 8)
			mem.Store(memory(9), []api.Region{{From: 0, Len: 9, Write: true}}, 8, 77)
			w, g := mem.Load(m, l, at)
			o, h := mem.Store(m, l, at, 3)
			if mem.May(l, 5) != may || w != v || g != e || !slices.Equal(o, n) || h != f {
				t.Fatal(l, at)
			}
		}
	}
}
