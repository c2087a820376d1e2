package frame_test

import (
	"math"
	"math/big"
	"slices"
	"testing"

	"quarterdeck/api"
	"quarterdeck/frame"
)

// nothing is what a tick is that is of no window.
var nothing = api.Slot{Window: -1}

// example is the chapter's.
func example() api.Config {
	return config(10, 1, window(0, 0, 4), window(1, 5, 5))
}

func config(ticks, switches int, l ...api.Window) api.Config {
	return api.Config{Frame: ticks, Switch: switches, Windows: l}
}

func window(part, start, length int) api.Window {
	return api.Window{Part: part, Start: start, Len: length}
}

// telling are numbers around each bound of the chapter, and the least and the greatest.
func telling() []int {
	return []int{math.MinInt, math.MinInt + 1, -4096, -1, 0, 1, 2, 3, 7, 4095, 4096, 4097, math.MaxInt - 1, math.MaxInt}
}

// whole is a number that does not wrap around.
func whole(n int) *big.Int { return big.NewInt(int64(n)) }

// sum is one of numbers that do not wrap around.
func sum(a, b int) *big.Int { return new(big.Int).Add(whole(a), whole(b)) }

// has goes by the chapter's words: whether a place is from Start on, for Len ticks.
func has(w api.Window, place int) bool {
	return w.Start >= 0 && place >= w.Start && whole(place).Cmp(sum(w.Start, w.Len)) < 0
}

// at goes by the chapter's words.
func at(c api.Config, t int) api.Slot {
	if t < 0 || c.Frame < 1 {
		return nothing
	}
	place := int(new(big.Int).Mod(whole(t), whole(c.Frame)).Int64())
	number := slices.IndexFunc(c.Windows, func(w api.Window) bool { return has(w, place) })
	if number == -1 {
		return nothing
	}
	into := place - c.Windows[number].Start
	return api.Slot{Window: number, Into: into, Runs: !(into < c.Switch)}
}

// starts goes by the chapter's words.
func starts(c api.Config, t int) int {
	if s := at(c, t); s.Window != -1 && s.Into == 0 {
		return s.Window
	}
	return -1
}

// first goes by the chapter's words, with ticks that do not wrap around.
func first(c api.Config, part, t int) int {
	if c.Frame < 1 || c.Frame > 4096 {
		return -1
	}
	if t < 0 {
		t = 0
	}
	for more := range c.Frame {
		tick := sum(t, more)
		if !tick.IsInt64() {
			continue
		}
		if n := starts(c, int(tick.Int64())); n != -1 && c.Windows[n].Part == part {
			return int(tick.Int64())
		}
	}
	return -1
}

// share goes by the chapter's words.
func share(c api.Config, part int) int {
	if c.Frame > 4096 {
		return 0
	}
	many := 0
	for t := 0; t < c.Frame; t++ {
		if s := at(c, t); s.Window != -1 && c.Windows[s.Window].Part == part && s.Runs {
			many++
		}
	}
	return many
}

// check holds what the package tells of a tick, and of it and on, against the chapter's words.
func check(t *testing.T, c api.Config, part, tick int) {
	t.Helper()
	if got, want := frame.At(c, tick), at(c, tick); got != want {
		t.Fatalf("At(%v, %d): %v, not %v", c, tick, got, want)
	}
	if got, want := frame.Starts(c, tick), starts(c, tick); got != want {
		t.Fatalf("Starts(%v, %d): %d, not %d", c, tick, got, want)
	}
	if got, want := frame.First(c, part, tick), first(c, part, tick); got != want {
		t.Fatalf("First(%v, %d, %d): %d, not %d", c, part, tick, got, want)
	}
}

// P8.1: the chapter's example, each tick of a frame, and some of the next.
func TestAtOfTheExample(t *testing.T) {
	want := []api.Slot{
		{Window: 0, Into: 0}, {Window: 0, Into: 1, Runs: true}, {Window: 0, Into: 2, Runs: true}, {Window: 0, Into: 3, Runs: true}, nothing,
		{Window: 1, Into: 0}, {Window: 1, Into: 1, Runs: true}, {Window: 1, Into: 2, Runs: true}, {Window: 1, Into: 3, Runs: true}, {Window: 1, Into: 4, Runs: true},
	}
	for tick := range 40 {
		if got := frame.At(example(), tick); got != want[tick%10] {
			t.Error(tick, got)
		}
	}
}

// P8.2: the chapter's example.
func TestExample(t *testing.T) {
	c := example()
	for tick := range 40 {
		want := -1
		switch tick % 10 {
		case 0:
			want = 0
		case 5:
			want = 1
		}
		if got := frame.Starts(c, tick); got != want {
			t.Error("starts", tick, got)
		}
	}
	for part, want := range map[int]int{-1: 0, 0: 3, 1: 4, 2: 0} {
		if got := frame.Share(c, part); got != want {
			t.Error("share", part, got)
		}
	}
	for _, f := range []struct{ part, t, want int }{
		{0, 0, 0}, {0, 1, 10}, {0, 9, 10}, {0, 10, 10}, {0, 11, 20}, {0, -1, 0}, {0, math.MinInt, 0},
		{1, 0, 5}, {1, 4, 5}, {1, 5, 5}, {1, 6, 15}, {1, 14, 15}, {1, 15, 15}, {1, 16, 25}, {1, -1, 5}, {1, math.MinInt, 5},
		{2, 0, -1}, {-1, 0, -1}, {math.MinInt, 7, -1}, {math.MaxInt, 7, -1},
	} {
		if got := frame.First(c, f.part, f.t); got != f.want {
			t.Error("first", f, got)
		}
	}
}

// P8.1: ticks at the edges: below 0, the last of a frame, the first of the next, the greatest, whose place in a frame of 10 is 7.
func TestAtOfTicksAtTheEdges(t *testing.T) {
	c := config(10, 0, window(0, 0, 3), window(1, 7, 1), window(2, 9, 1))
	for _, s := range []struct {
		t    int
		want api.Slot
	}{
		{math.MinInt, nothing}, {-11, nothing}, {-10, nothing}, {-3, nothing}, {-1, nothing},
		{0, api.Slot{Runs: true}}, {2, api.Slot{Into: 2, Runs: true}}, {3, nothing}, {6, nothing}, {8, nothing},
		{9, api.Slot{Window: 2, Runs: true}}, {10, api.Slot{Runs: true}}, {19, api.Slot{Window: 2, Runs: true}}, {20, api.Slot{Runs: true}},
		{math.MaxInt - 7, api.Slot{Runs: true}}, {math.MaxInt - 1, nothing}, {math.MaxInt, api.Slot{Window: 1, Runs: true}},
	} {
		if got := frame.At(c, s.t); got != s.want {
			t.Error(s.t, got)
		}
	}
}

// P8.1, P8.2: Frame at each bound: At and Starts take any from 1 on, First and Share only up to 4096.
func TestFrameAtEachBound(t *testing.T) {
	for _, f := range []struct {
		ticks        int
		is           bool
		first, share int
	}{
		{math.MinInt, false, -1, 0}, {-4096, false, -1, 0}, {-1, false, -1, 0}, {0, false, -1, 0},
		{1, true, 3, 1}, {2, true, 4, 2}, {3, true, 3, 3}, {4095, true, 4095, 4095}, {4096, true, 4096, 4096},
		{4097, true, -1, 0}, {1<<32 + 1, true, -1, 0}, {math.MaxInt, true, -1, 0},
	} {
		c := config(f.ticks, 0, window(5, 0, math.MaxInt))
		want := nothing
		if f.is {
			want = api.Slot{Runs: true}
		}
		if got := frame.At(c, 0); got != want {
			t.Error("at", f, got)
		}
		if got := frame.Starts(c, 0); got != want.Window {
			t.Error("starts", f, got)
		}
		if got := frame.First(c, 5, 3); got != f.first {
			t.Error("first", f, got)
		}
		if got := frame.Share(c, 5); got != f.share {
			t.Error("share", f, got)
		}
	}
}

// P8.1: frames that are longer than one that may be.
func TestAtOfALongFrame(t *testing.T) {
	c := config(math.MaxInt, 2, window(0, 4097, 3), window(0, math.MaxInt-1, 1))
	for tick, want := range map[int]api.Slot{
		0: nothing, 4096: nothing, 4097: {}, 4098: {Into: 1}, 4099: {Into: 2, Runs: true}, 4100: nothing,
		math.MaxInt - 2: nothing, math.MaxInt - 1: {Window: 1}, math.MaxInt: nothing,
	} {
		if got := frame.At(c, tick); got != want {
			t.Error(tick, got)
		}
	}
	if frame.Starts(c, 4097) != 0 || frame.Starts(c, 4098) != -1 || frame.Starts(c, math.MaxInt-1) != 1 || frame.Starts(c, math.MaxInt) != -1 {
		t.Error("starts")
	}
}

// P8.1, P8.3: a window costs Switch ticks, or all that it has: Switch below 0, 0, as long as a window, longer; Into just below it and at it.
func TestSwitchAtEachBound(t *testing.T) {
	for switches, runs := range map[int]int{math.MinInt: 4, -1: 4, 0: 4, 1: 3, 2: 2, 3: 1, 4: 0, 5: 0, 4096: 0, math.MaxInt: 0} {
		c := config(10, switches, window(1, 3, 4))
		for into := range 4 {
			if got, want := frame.At(c, 13+into), (api.Slot{Into: into, Runs: into >= 4-runs}); got != want {
				t.Error(switches, into, got)
			}
		}
		for _, tick := range []int{-1, 2, 12, 17} {
			if got := frame.At(c, tick); got != nothing {
				t.Error(switches, tick, got)
			}
		}
		if got := frame.Share(c, 1); got != runs {
			t.Error("share", switches, got)
		}
		if got := frame.First(c, 1, 4); got != 13 {
			t.Error("first", switches, got)
		}
	}
}

// P8.1: windows at each bound: which places of a frame of 6 they have.
func TestWindowAtEachBound(t *testing.T) {
	for _, w := range []struct {
		what          string
		start, length int
		places        []int
	}{
		{"all of it", 0, 6, []int{0, 1, 2, 3, 4, 5}},
		{"one tick", 2, 1, []int{2}},
		{"to the end", 4, 2, []int{4, 5}},
		{"past the end", 4, 3, []int{4, 5}},
		{"past the end by a whole frame", 4, 8, []int{4, 5}},
		{"from the last tick", 5, 1, []int{5}},
		{"from the end", 6, 1, nil},
		{"from behind the end", 7, 6, nil},
		{"Len 0", 2, 0, nil},
		{"Len -1", 2, -1, nil},
		{"the least Len", 2, math.MinInt, nil},
		{"the least Len from 0", 0, math.MinInt, nil},
		{"Start -1", -1, 4, nil},
		{"Start -6", -6, 12, nil},
		{"the least Start", math.MinInt, 6, nil},
		{"the least Start, the greatest Len", math.MinInt, math.MaxInt, nil},
		{"Start -1, the greatest Len", -1, math.MaxInt, nil},
		{"the least of both", math.MinInt, math.MinInt, nil},
		{"the greatest Len", 0, math.MaxInt, []int{0, 1, 2, 3, 4, 5}},
		{"Start and Len past the greatest number", 1, math.MaxInt, []int{1, 2, 3, 4, 5}},
		{"Start and Len past it by more", 5, math.MaxInt, []int{5}},
		{"the greatest Start", math.MaxInt, 1, nil},
		{"the greatest of both", math.MaxInt, math.MaxInt, nil},
	} {
		c := config(6, 1, window(3, w.start, w.length))
		runs := 0
		for tick := range 18 {
			want := nothing
			if slices.Contains(w.places, tick%6) {
				into := tick%6 - w.start
				want = api.Slot{Into: into, Runs: into >= 1}
			}
			if got := frame.At(c, tick); got != want {
				t.Error(w.what, tick, got)
			}
			if want.Runs && tick < 6 {
				runs++
			}
		}
		begins := -1
		if len(w.places) > 0 {
			begins = 6 + w.start
		}
		if got := frame.First(c, 3, 6); got != begins {
			t.Error(w.what, "first", got)
		}
		if got := frame.Share(c, 3); got != runs {
			t.Error(w.what, "share", got)
		}
	}
}

// P8.1, P8.2: of windows that lie over each other the first one of the list has the place, also if it began later; the other one does not begin where it is hidden.
func TestWindowsOverEachOther(t *testing.T) {
	c := config(10, 1, window(0, 2, 3), window(1, 0, 4), window(2, 4, 4), window(3, 2, 9))
	numbers := []int{1, 1, 0, 0, 0, 2, 2, 2, 3, 3}
	intos := []int{0, 1, 0, 1, 2, 1, 2, 3, 6, 7}
	for place := range 10 {
		want := api.Slot{Window: numbers[place], Into: intos[place], Runs: intos[place] > 0}
		if got := frame.At(c, 20+place); got != want {
			t.Error(place, got)
		}
	}
	for part, want := range map[int]int{0: 2, 1: 0, 2: -1, 3: -1} {
		if got := frame.First(c, part, 0); got != want {
			t.Error("first", part, got)
		}
	}
	for part, want := range map[int]int{0: 2, 1: 1, 2: 3, 3: 2} {
		if got := frame.Share(c, part); got != want {
			t.Error("share", part, got)
		}
	}
	same := config(10, 0, window(4, 1, 2), window(5, 1, 2))
	if frame.Starts(same, 1) != 0 || frame.First(same, 5, 0) != -1 || frame.Share(same, 5) != 0 || frame.Share(same, 4) != 2 {
		t.Error("two that are one")
	}
}

// P8.2: several windows of one part, with gaps between them, out of their order in the list.
func TestSeveralWindowsOfAPart(t *testing.T) {
	c := config(20, 2, window(1, 12, 5), window(0, 9, 1), window(1, 3, 4), window(0, 18, 2))
	for _, f := range []struct{ part, t, want int }{
		{1, 0, 3}, {1, 3, 3}, {1, 4, 12}, {1, 12, 12}, {1, 13, 23}, {1, 20, 23}, {1, 24, 32},
		{0, 0, 9}, {0, 9, 9}, {0, 10, 18}, {0, 18, 18}, {0, 19, 29}, {0, 39, 49},
	} {
		if got := frame.First(c, f.part, f.t); got != f.want {
			t.Error("first", f, got)
		}
	}
	if frame.Share(c, 1) != 3+2 || frame.Share(c, 0) != 0 {
		t.Error("share", frame.Share(c, 1), frame.Share(c, 0))
	}
	if frame.Starts(c, 12) != 0 || frame.Starts(c, 9) != 1 || frame.Starts(c, 3) != 2 || frame.Starts(c, 38) != 3 {
		t.Error("starts")
	}
}

// P8.2: as many ticks as Frame tells are looked at: the last of them, and none behind it.
func TestFirstLooksAtAFrame(t *testing.T) {
	for _, ticks := range []int{1, 2, 10, 4095, 4096} {
		c := config(ticks, 0, window(0, 0, 1))
		if got := frame.First(c, 0, 1); got != ticks {
			t.Error(ticks, got)
		}
		if got := frame.First(c, 0, ticks); got != ticks {
			t.Error(ticks, got)
		}
		if got := frame.First(c, 0, 5*ticks+1); got != 6*ticks {
			t.Error(ticks, got)
		}
	}
}

// P8.2: ticks above the greatest number are none, also for a tick whose frame passes it. That number's place is 7.
func TestFirstAtTheGreatestNumber(t *testing.T) {
	for _, f := range []struct{ start, t, want int }{
		{7, math.MaxInt, math.MaxInt}, {7, math.MaxInt - 1, math.MaxInt}, {7, math.MaxInt - 9, math.MaxInt}, {7, math.MaxInt - 10, math.MaxInt - 10},
		{6, math.MaxInt - 1, math.MaxInt - 1}, {6, math.MaxInt, -1},
		{8, math.MaxInt, -1}, {8, math.MaxInt - 8, -1}, {8, math.MaxInt - 9, math.MaxInt - 9},
		{0, math.MaxInt, -1}, {0, math.MaxInt - 6, -1}, {0, math.MaxInt - 7, math.MaxInt - 7},
	} {
		c := config(10, 1, window(0, f.start, 1))
		if got := frame.First(c, 0, f.t); got != f.want {
			t.Error(f, got)
		}
	}
	for _, ticks := range []int{4096, 4097} {
		if got := frame.First(config(ticks, 1, window(0, 0, 1)), 0, math.MaxInt); got != -1 {
			t.Error(ticks, got)
		}
	}
}

// P8.2: a part may have any number, also that of no window.
func TestPartsOfAnyNumber(t *testing.T) {
	for _, part := range telling() {
		c := config(8, 1, window(100, 0, 2), window(part, 3, 3))
		if got := frame.First(c, part, 0); got != 3 {
			t.Error("first", part, got)
		}
		if got := frame.Share(c, part); got != 2 {
			t.Error("share", part, got)
		}
		alone := config(8, -1, window(100, 0, 2))
		if got := frame.First(alone, part, 0); got != -1 {
			t.Error("first of none", part, got)
		}
		if got := frame.Share(alone, part); got != 0 {
			t.Error("share of none", part, got)
		}
	}
}

// P8.1, P8.2, R6: no windows, as nil and as an empty list, whatever the other numbers are.
func TestNoWindows(t *testing.T) {
	for _, none := range [][]api.Window{nil, {}} {
		for _, ticks := range telling() {
			for _, tick := range telling() {
				for _, switches := range []int{math.MinInt, 0, math.MaxInt} {
					c := config(ticks, switches, none...)
					if frame.At(c, tick) != nothing || frame.Starts(c, tick) != -1 || frame.First(c, -1, tick) != -1 || frame.First(c, 0, tick) != -1 || frame.Share(c, -1) != 0 || frame.Share(c, 0) != 0 {
						t.Fatal(c, tick)
					}
				}
			}
		}
	}
}

// P8.1: windows are as many as there are, also more than may be.
func TestManyWindows(t *testing.T) {
	c := config(4096, 0)
	for n := range 4096 {
		c.Windows = append(c.Windows, window(n%5, 4095-n, 1))
	}
	for place := range 4096 {
		if got, want := frame.At(c, 4096+place), (api.Slot{Window: 4095 - place, Runs: true}); got != want {
			t.Fatal(place, got)
		}
	}
	if frame.Share(c, 0) != 820 || frame.Share(c, 4) != 819 || frame.First(c, 0, 0) != 0 || frame.First(c, 1, 0) != 4 {
		t.Error(frame.Share(c, 0), frame.Share(c, 4), frame.First(c, 0, 0), frame.First(c, 1, 0))
	}
}

// P8.1, P8.2, R1: every configuration of small numbers with two windows, also such as may not be.
func TestSmallNumbersByTheChapter(t *testing.T) {
	var windows []api.Window
	for start := -1; start <= 3; start++ {
		for length := -1; length <= 4; length++ {
			windows = append(windows, window(length&1, start, length))
		}
	}
	for ticks := -1; ticks <= 3; ticks++ {
		for _, switches := range []int{-1, 0, 1, 2, 4} {
			for _, a := range windows {
				for _, b := range windows {
					c := config(ticks, switches, a, b)
					for tick := -2; tick <= 7; tick++ {
						check(t, c, tick&1, tick)
					}
					for part := range 3 {
						if got, want := frame.Share(c, part), share(c, part); got != want {
							t.Fatalf("Share(%v, %d): %d, not %d", c, part, got, want)
						}
					}
				}
			}
		}
	}
}

// P8.1, P8.2, R1: all telling numbers, the least and the greatest with them. Long frames are gone through only at some of them, for the time that it takes.
func TestTellingNumbersByTheChapter(t *testing.T) {
	for _, ticks := range telling() {
		for _, start := range telling() {
			for _, length := range telling() {
				for _, switches := range []int{math.MinInt, -1, 0, 1, 4095, math.MaxInt} {
					c := config(ticks, switches, window(1, start, length))
					for _, tick := range telling() {
						if got, want := frame.At(c, tick), at(c, tick); got != want {
							t.Fatalf("At(%v, %d): %v, not %v", c, tick, got, want)
						}
						if got, want := frame.Starts(c, tick), starts(c, tick); got != want {
							t.Fatalf("Starts(%v, %d): %d, not %d", c, tick, got, want)
						}
					}
				}
				if ticks == 4095 || ticks == 4096 && length != 2 {
					continue
				}
				c := config(ticks, 1, window(1, start, length))
				for _, tick := range []int{math.MinInt, 0, 2, math.MaxInt - 1, math.MaxInt} {
					check(t, c, 1, tick)
				}
				if got, want := frame.Share(c, 1), share(c, 1); got != want {
					t.Fatalf("Share(%v, 1): %d, not %d", c, got, want)
				}
			}
		}
	}
}

// plans are configurations whose windows are in their order and apart, within a frame of 7 ticks: every way to leave each tick free, to begin a window there, or to go on with one.
func plans(do func(c api.Config)) {
	const ticks = 7
	for way := range 2187 { // 3 to the 7th
		for switches := range 4 {
			c := config(ticks, switches)
			open := false
			for place, rest := 0, way; place < ticks; place, rest = place+1, rest/3 {
				switch last := len(c.Windows) - 1; {
				case rest%3 == 0:
					open = false
				case rest%3 == 2 && open:
					c.Windows[last].Len++
				default:
					c.Windows = append(c.Windows, window(place%3, place, 1))
					open = true
				}
			}
			do(c)
		}
	}
}

// P8.3: what a tick is comes again with each frame, also of configurations that may not be.
func TestTicksComeAgain(t *testing.T) {
	again := func(c api.Config) {
		for tick := range 2 * c.Frame {
			for _, frames := range []int{1, 2, 3, 1000, 1 << 40} {
				later := tick + frames*c.Frame
				if frame.At(c, later) != frame.At(c, tick) || frame.Starts(c, later) != frame.Starts(c, tick) {
					t.Fatal(c, tick, frames)
				}
				if soon := frame.First(c, 1, tick); soon != -1 && frame.First(c, 1, later) != soon+frames*c.Frame {
					t.Fatal("first", c, tick, frames)
				}
			}
		}
	}
	plans(again)
	again(config(10, -1, window(1, 8, 5), window(1, -2, 9), window(2, 0, 9), window(1, 3, 3)))
}

// P8.3: a partition that has a window begins one within each frame, from whatever tick on, and one that has none never does.
func TestEachBeginsWithinAFrame(t *testing.T) {
	plans(func(c api.Config) {
		for part := range 3 {
			owns := slices.ContainsFunc(c.Windows, func(w api.Window) bool { return w.Part == part })
			for from := range 2 * c.Frame {
				got := frame.First(c, part, from)
				if !owns && got != -1 || owns && (got < from || got >= from+c.Frame) {
					t.Fatal(c, part, from, got)
				}
				if owns && c.Windows[frame.Starts(c, got)].Part != part {
					t.Fatal("whose", c, part, from, got)
				}
			}
		}
	})
}

// P8.3: each window costs Switch ticks, or all that it has; its partition runs in the others of it, and in none beside.
func TestEachWindowCostsItsSwitch(t *testing.T) {
	plans(func(c api.Config) {
		costs := make([]int, len(c.Windows))
		for tick := range c.Frame {
			if s := frame.At(c, tick); s.Window != -1 && !s.Runs {
				costs[s.Window]++
			}
		}
		runs := make([]int, 3)
		for n, w := range c.Windows {
			if costs[n] != min(c.Switch, w.Len) {
				t.Fatal(c, n, costs)
			}
			runs[w.Part] += w.Len - min(c.Switch, w.Len)
		}
		for part, want := range runs {
			if got := frame.Share(c, part); got != want {
				t.Fatal(c, part, got)
			}
		}
	})
}

// P8.1, P8.2: only Frame, Switch and Windows of a configuration count.
func TestNothingElseCounts(t *testing.T) {
	for _, other := range []api.Config{
		{},
		{Lines: []int{0, -7, math.MaxInt}},
		{Parts: make([]api.PartConf, 9)},
		{Channels: []api.Channel{{From: -1, To: 99}}},
	} {
		c := example()
		other.Frame, other.Switch, other.Windows = c.Frame, c.Switch, c.Windows
		for tick := -3; tick < 25; tick++ {
			for part := -1; part <= 2; part++ {
				check(t, other, part, tick)
				if got := frame.First(other, part, tick); got != frame.First(c, part, tick) {
					t.Error(part, tick, got)
				}
			}
			if frame.At(other, tick) != frame.At(c, tick) {
				t.Error(tick)
			}
		}
		if frame.Share(other, 0) != 3 || frame.Share(other, 1) != 4 {
			t.Error(other)
		}
	}
}

// R3, R5: what is handed in stays, also in the room behind the end of a list, and what is asked again is answered again, whatever was asked between.
func TestArgumentsStayAndAnswersToo(t *testing.T) {
	room := func() []api.Window {
		return []api.Window{window(0, 0, 4), window(1, 5, 5), window(0, 4, 1), window(1, 2, 3)}
	}
	l := room()
	c := config(10, 1, l[:2]...)
	c.Lines, c.Channels = []int{1, 0}, []api.Channel{{To: 1}}
	ask := func() []int {
		var all []int
		for tick := -2; tick < 22; tick++ {
			s := frame.At(c, tick)
			all = append(all, s.Window, s.Into, frame.Starts(c, tick), frame.First(c, 0, tick), frame.First(c, 1, tick), frame.Share(c, tick))
		}
		return all
	}
	before := ask()
	frame.First(config(4096, 0, window(7, 1, 1)), 7, math.MaxInt)
	frame.At(config(-1, 0), -1)
	if !slices.Equal(before, ask()) {
		t.Error("asked again")
	}
	if !slices.Equal(l, room()) || len(c.Windows) != 2 || c.Frame != 10 || c.Switch != 1 || !slices.Equal(c.Lines, []int{1, 0}) || !slices.Equal(c.Channels, []api.Channel{{To: 1}}) || c.Parts != nil {
		t.Error(c, l)
	}
}
