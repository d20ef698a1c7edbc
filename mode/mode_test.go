package mode

import (
	"math"
	"math/big"
	"math/rand"
	"slices"
	"testing"
	"time"

	"chartulary/api"
)

// The first and the last moment, as the document writes them.
const (
	firstMoment = -62135596800
	lastMoment  = 253402300799
)

// modes are all three, and some that are none.
var modes = []int{math.MinInt, -1, 0, 1, 2, 3, 4, 255, 256, 1 << 32, 1<<32 + 1, math.MaxInt}

// times are moments and other numbers, at the ends and one beside them.
var times = []int64{
	math.MinInt64, math.MinInt64 + 1, firstMoment - 1, firstMoment, firstMoment + 1, -86400, -2, -1, 0, 1, 2, 99, 100, 101,
	86400, lastMoment - 1, lastMoment, lastMoment + 1, math.MaxInt64 - 1, math.MaxInt64,
}

// flags are both.
var flags = []bool{false, true}

// allLocks: each mode with each time, held and not.
func allLocks() []api.Lock {
	var all []api.Lock
	for _, mode := range modes {
		for _, until := range times {
			for _, hold := range flags {
				all = append(all, api.Lock{Mode: mode, Until: until, Hold: hold})
			}
		}
	}
	return all
}

// readSound: what the chapter's words say of a lock.
func readSound(l api.Lock) bool {
	openOne := l.Mode == 0 && l.Until == 0
	other := (l.Mode == 1 || l.Mode == 2) && -62135596800 <= l.Until && l.Until <= 253402300799
	return openOne || other
}

// readGood: what the chapter's words say of a default.
func readGood(d api.Default) bool {
	return d.Mode == 0 && d.Days == 0 || (d.Mode == 1 || d.Mode == 2) && 1 <= d.Days && d.Days <= 36500
}

// readBinds: what the chapter's words say of a lock at a moment.
func readBinds(l api.Lock, t int64) bool { return l.Mode != 0 && t < l.Until }

// readErase: P12.1 once more.
func readErase(l api.Lock, t int64, bypass bool) api.Errno {
	if !readSound(l) {
		return api.ErrForm
	}
	if l.Hold {
		return api.ErrLocked
	}
	if readBinds(l, t) {
		if l.Mode == 2 {
			return api.ErrLocked
		}
		if l.Mode == 1 && !bypass {
			return api.ErrLocked
		}
	}
	return api.OK
}

// readRetain: P12.2 once more.
func readRetain(l api.Lock, mode int, until, t int64, bypass bool) (api.Lock, api.Errno) {
	with := l
	with.Mode = mode
	with.Until = until
	if !readSound(l) {
		return api.Lock{}, api.ErrForm
	}
	if !readSound(with) {
		return api.Lock{}, api.ErrForm
	}
	if mode != 0 && !(until > t) {
		return api.Lock{}, api.ErrRange
	}
	if readBinds(l, t) {
		if l.Mode == 2 && (mode != 2 || until < l.Until) {
			return api.Lock{}, api.ErrLocked
		}
		if l.Mode == 1 && !bypass && (mode == 0 || until < l.Until) {
			return api.Lock{}, api.ErrLocked
		}
	}
	return with, api.OK
}

// readBegin: P12.2 once more, with numbers of any size.
func readBegin(d api.Default, t int64) (api.Lock, api.Errno) {
	if !readGood(d) {
		return api.Lock{}, api.ErrForm
	}
	if d.Mode == 0 {
		return api.Lock{}, api.OK
	}
	from := min(max(t, firstMoment), lastMoment)
	until := new(big.Int).Mul(big.NewInt(int64(d.Days)), big.NewInt(86400))
	until.Add(until, big.NewInt(from))
	if until.Cmp(big.NewInt(lastMoment)) > 0 {
		until.SetInt64(lastMoment)
	}
	return api.Lock{Mode: d.Mode, Until: until.Int64()}, api.OK
}

// readCovers: P12.3 once more.
func readCovers(a, b api.Lock, t int64) bool {
	wrongHold := b.Hold && !a.Hold
	wrongMode := readBinds(b, t) && a.Mode < b.Mode
	wrongUntil := readBinds(b, t) && a.Until < b.Until
	return !wrongHold && !wrongMode && !wrongUntil
}

// oneAsRead fails if what is asked of one lock at a moment is answered otherwise than the second reading says.
func oneAsRead(t *testing.T, l api.Lock, at int64) {
	t.Helper()
	if got, want := Sound(l), readSound(l); got != want {
		t.Fatalf("Sound(%v): %v", l, got)
	}
	if got, want := Held(l, at), l.Hold || readBinds(l, at); got != want {
		t.Fatalf("Held(%v, %d): %v", l, at, got)
	}
	for _, bypass := range flags {
		if got, want := Erase(l, at, bypass), readErase(l, at, bypass); got != want {
			t.Fatalf("Erase(%v, %d, %v): %d, not %d", l, at, bypass, got, want)
		}
	}
}

// retainAsRead fails if Retain answers otherwise than the second reading.
func retainAsRead(t *testing.T, l api.Lock, mode int, until, at int64) {
	t.Helper()
	for _, bypass := range flags {
		got, e := Retain(l, mode, until, at, bypass)
		want, wantE := readRetain(l, mode, until, at, bypass)
		if got != want || e != wantE {
			t.Fatalf("Retain(%v, %d, %d, %d, %v): %v, %d, not %v, %d", l, mode, until, at, bypass, got, e, want, wantE)
		}
	}
}

// coversAsRead fails if Covers answers otherwise than the second reading.
func coversAsRead(t *testing.T, a, b api.Lock, at int64) {
	t.Helper()
	if got, want := Covers(a, b, at), readCovers(a, b, at); got != want {
		t.Fatalf("Covers(%v, %v, %d): %v", a, b, at, got)
	}
}

// beginAsRead fails if Good or Begin answers otherwise than the second reading.
func beginAsRead(t *testing.T, d api.Default, at int64) {
	t.Helper()
	if got, want := Good(d), readGood(d); got != want {
		t.Fatalf("Good(%v): %v", d, got)
	}
	got, e := Begin(d, at)
	want, wantE := readBegin(d, at)
	if got != want || e != wantE {
		t.Fatalf("Begin(%v, %d): %v, %d, not %v, %d", d, at, got, e, want, wantE)
	}
}

func TestLimits(t *testing.T) {
	first := time.Date(1, 1, 1, 0, 0, 0, 0, time.UTC).Unix()
	last := time.Date(9999, 12, 31, 23, 59, 59, 0, time.UTC).Unix()
	if first != firstMoment || last != lastMoment || api.Open != 0 || api.Governance != 1 || api.Compliance != 2 {
		t.Fatalf("moments from %d to %d", first, last)
	}
}

func TestSound(t *testing.T) {
	for _, c := range []struct {
		mode  int
		until int64
		sound bool
	}{
		{0, 0, true}, {0, 1, false}, {0, -1, false}, {0, firstMoment, false}, {0, lastMoment, false},
		{1, 0, true}, {1, 1, true}, {1, -1, true}, {1, firstMoment, true}, {1, firstMoment - 1, false},
		{1, lastMoment, true}, {1, lastMoment + 1, false}, {1, math.MinInt64, false}, {1, math.MaxInt64, false},
		{2, 0, true}, {2, 1, true}, {2, -1, true}, {2, firstMoment, true}, {2, firstMoment - 1, false},
		{2, lastMoment, true}, {2, lastMoment + 1, false}, {2, math.MinInt64, false}, {2, math.MaxInt64, false},
		{3, 0, false}, {3, 1, false}, {-1, 0, false}, {-1, 1, false}, {math.MaxInt, 0, false}, {math.MinInt, 0, false},
		{256, 0, false}, {1<<32 + 1, 5, false},
	} {
		for _, hold := range flags {
			if l := (api.Lock{Mode: c.mode, Until: c.until, Hold: hold}); Sound(l) != c.sound {
				t.Errorf("Sound(%v): %v", l, !c.sound)
			}
		}
	}
}

func TestGood(t *testing.T) {
	for _, c := range []struct {
		mode, days int
		good       bool
	}{
		{0, 0, true}, {0, 1, false}, {0, -1, false}, {0, 36500, false},
		{1, 0, false}, {1, -1, false}, {1, 1, true}, {1, 2, true}, {1, 36499, true}, {1, 36500, true}, {1, 36501, false},
		{2, 0, false}, {2, -1, false}, {2, 1, true}, {2, 2, true}, {2, 36499, true}, {2, 36500, true}, {2, 36501, false},
		{1, math.MinInt, false}, {1, math.MaxInt, false}, {2, math.MinInt, false}, {2, math.MaxInt, false},
		{3, 0, false}, {3, 1, false}, {-1, 0, false}, {-1, 1, false}, {math.MaxInt, 1, false}, {math.MinInt, 1, false},
		{1, 1<<32 + 1, false}, {1<<32 + 1, 1, false},
	} {
		d := api.Default{Mode: c.mode, Days: c.days}
		if Good(d) != c.good {
			t.Errorf("Good(%v): %v", d, !c.good)
		}
		for _, at := range times {
			beginAsRead(t, d, at)
		}
	}
}

func TestHeld(t *testing.T) {
	for _, c := range []struct {
		l    api.Lock
		t    int64
		held bool
	}{
		{api.Lock{}, 0, false}, {api.Lock{}, -1, false}, {api.Lock{}, math.MinInt64, false}, {api.Lock{Hold: true}, 0, true},
		{api.Lock{Mode: 1, Until: 100}, 99, true}, {api.Lock{Mode: 1, Until: 100}, 100, false}, {api.Lock{Mode: 1, Until: 100}, 101, false},
		{api.Lock{Mode: 2, Until: 100}, 99, true}, {api.Lock{Mode: 2, Until: 100}, 100, false}, {api.Lock{Mode: 2, Until: 100}, 101, false},
		{api.Lock{Mode: 1, Until: 100, Hold: true}, 100, true}, {api.Lock{Mode: 2, Until: 100, Hold: true}, 101, true},
		{api.Lock{Mode: 2, Until: firstMoment}, firstMoment - 1, true}, {api.Lock{Mode: 2, Until: firstMoment}, firstMoment, false},
		{api.Lock{Mode: 1, Until: lastMoment}, lastMoment - 1, true}, {api.Lock{Mode: 1, Until: lastMoment}, lastMoment, false},
		// Locks that are not sound bind, or don't, by the same words.
		{api.Lock{Until: 100}, 99, false}, {api.Lock{Until: 100, Hold: true}, 99, true},
		{api.Lock{Mode: 3, Until: 100}, 99, true}, {api.Lock{Mode: -1, Until: 100}, 99, true}, {api.Lock{Mode: -1, Until: 100}, 100, false},
		{api.Lock{Mode: 1, Until: math.MaxInt64}, lastMoment + 1, true},
	} {
		if Held(c.l, c.t) != c.held {
			t.Errorf("Held(%v, %d): %v", c.l, c.t, !c.held)
		}
	}
}

func TestErase(t *testing.T) {
	for _, c := range []struct {
		l         api.Lock
		t         int64
		e, passed api.Errno
	}{
		{api.Lock{}, 0, 0, 0}, {api.Lock{}, math.MinInt64, 0, 0}, {api.Lock{Hold: true}, 0, 13, 13},
		{api.Lock{Mode: 1, Until: 100}, 99, 13, 0}, {api.Lock{Mode: 1, Until: 100}, 100, 0, 0}, {api.Lock{Mode: 1, Until: 100}, 101, 0, 0},
		{api.Lock{Mode: 2, Until: 100}, 99, 13, 13}, {api.Lock{Mode: 2, Until: 100}, 100, 0, 0}, {api.Lock{Mode: 2, Until: 100}, 101, 0, 0},
		{api.Lock{Mode: 1, Until: 100, Hold: true}, 99, 13, 13}, {api.Lock{Mode: 1, Until: 100, Hold: true}, 100, 13, 13},
		{api.Lock{Mode: 2, Until: 100, Hold: true}, 99, 13, 13}, {api.Lock{Mode: 2, Until: 100, Hold: true}, 100, 13, 13},
		// What is not sound is told ahead of what is locked, or would not be.
		{api.Lock{Mode: 3, Until: 100, Hold: true}, 99, 2, 2}, {api.Lock{Mode: -1}, 99, 2, 2}, {api.Lock{Until: 1}, 0, 2, 2},
		{api.Lock{Until: 1, Hold: true}, 0, 2, 2}, {api.Lock{Mode: 2, Until: lastMoment + 1}, 0, 2, 2}, {api.Lock{Mode: 1, Until: firstMoment - 1}, 0, 2, 2},
	} {
		if e, passed := Erase(c.l, c.t, false), Erase(c.l, c.t, true); e != c.e || passed != c.passed {
			t.Errorf("Erase(%v, %d): %d, with bypass %d", c.l, c.t, e, passed)
		}
	}
}

func TestRetain(t *testing.T) {
	open := api.Lock{}
	gov := api.Lock{Mode: 1, Until: 100}
	com := api.Lock{Mode: 2, Until: 100}
	for _, c := range []struct {
		l         api.Lock
		mode      int
		until, t  int64
		e, passed api.Errno
	}{
		// An open one, and such as don't bind any more, become any other one.
		{open, 0, 0, 50, 0, 0}, {open, 1, 51, 50, 0, 0}, {open, 2, 51, 50, 0, 0}, {open, 1, lastMoment, 50, 0, 0},
		{gov, 0, 0, 100, 0, 0}, {gov, 1, 101, 100, 0, 0}, {gov, 2, 101, 100, 0, 0}, {com, 0, 0, 100, 0, 0}, {com, 1, 101, 100, 0, 0},
		{com, 2, 101, 100, 0, 0}, {com, 0, 0, 99, 13, 13}, {gov, 0, 0, 99, 13, 0},
		// With an Until that is smaller, the same, and greater, in each mode.
		{gov, 1, 99, 50, 13, 0}, {gov, 1, 100, 50, 0, 0}, {gov, 1, 101, 50, 0, 0},
		{gov, 2, 99, 50, 13, 0}, {gov, 2, 100, 50, 0, 0}, {gov, 2, 101, 50, 0, 0}, {gov, 0, 0, 50, 13, 0},
		{com, 2, 99, 50, 13, 13}, {com, 2, 100, 50, 0, 0}, {com, 2, 101, 50, 0, 0},
		{com, 1, 99, 50, 13, 13}, {com, 1, 100, 50, 13, 13}, {com, 1, 101, 50, 13, 13}, {com, 0, 0, 50, 13, 13},
		// Open's 0 may be above what a lock has.
		{api.Lock{Mode: 1, Until: -10}, 0, 0, -20, 13, 0}, {api.Lock{Mode: 2, Until: -10}, 0, 0, -20, 13, 13},
		// Until at t, and beside it; Open has none.
		{open, 1, 50, 50, 4, 4}, {open, 2, 50, 50, 4, 4}, {open, 1, 49, 50, 4, 4}, {open, 2, 51, 50, 0, 0}, {open, 0, 0, 0, 0, 0}, {open, 0, 0, math.MaxInt64, 0, 0},
		// ErrRange is told ahead of ErrLocked, and ErrForm ahead of both.
		{gov, 1, 50, 50, 4, 4}, {com, 1, 50, 50, 4, 4}, {com, 2, 49, 50, 4, 4},
		{open, 0, 1, 50, 2, 2}, {open, 0, -1, 50, 2, 2}, {com, 0, 1, 50, 2, 2}, {com, 3, 60, 50, 2, 2}, {com, -1, 60, 50, 2, 2}, {com, 3, 40, 50, 2, 2},
		{open, 1, lastMoment + 1, 50, 2, 2}, {open, 1, firstMoment - 1, 50, 2, 2}, {com, 2, firstMoment - 1, 50, 2, 2},
		{open, 1, firstMoment, 50, 4, 4}, {open, 1, firstMoment, firstMoment - 1, 0, 0}, {open, 2, lastMoment, lastMoment, 4, 4},
		// A lock that is not sound itself.
		{api.Lock{Mode: 3, Until: 100}, 2, 200, 50, 2, 2}, {api.Lock{Mode: -1}, 0, 0, 50, 2, 2}, {api.Lock{Until: 1}, 0, 0, 50, 2, 2},
		{api.Lock{Mode: 2, Until: lastMoment + 1}, 2, lastMoment, 50, 2, 2}, {api.Lock{Until: 1}, 2, 40, 50, 2, 2},
	} {
		for _, hold := range flags {
			l, want := c.l, api.Lock{Mode: c.mode, Until: c.until, Hold: hold}
			l.Hold = hold
			for i, wantE := range []api.Errno{c.e, c.passed} {
				got, e := Retain(l, c.mode, c.until, c.t, i == 1)
				if e != wantE || e == api.OK && got != want || e != api.OK && got != (api.Lock{}) {
					t.Errorf("Retain(%v, %d, %d, %d, %v): %v, %d", l, c.mode, c.until, c.t, i == 1, got, e)
				}
			}
		}
	}
}

func TestBegin(t *testing.T) {
	for _, c := range []struct {
		mode, days int
		t, until   int64
	}{
		{1, 1, 5, 86405}, {2, 1, 5, 86405}, {1, 36500, 0, 36500 * 86400}, {2, 2, -86400, 86400}, {1, 7, -1, 7*86400 - 1},
		// Moments that there are none of are the nearest one.
		{1, 1, firstMoment, firstMoment + 86400}, {1, 1, firstMoment - 1, firstMoment + 86400}, {2, 3, math.MinInt64, firstMoment + 3*86400},
		{2, 1, lastMoment + 1, lastMoment}, {1, 36500, math.MaxInt64, lastMoment}, {1, 1, lastMoment, lastMoment},
		// The day may be the last moment, or beyond it.
		{1, 1, lastMoment - 86401, lastMoment - 1}, {1, 1, lastMoment - 86400, lastMoment}, {1, 1, lastMoment - 86399, lastMoment},
		{2, 36500, lastMoment - 36500*86400 - 1, lastMoment - 1}, {2, 36500, lastMoment - 36500*86400 + 1, lastMoment},
	} {
		l, e := Begin(api.Default{Mode: c.mode, Days: c.days}, c.t)
		if l != (api.Lock{Mode: c.mode, Until: c.until}) || e != api.OK || !Sound(l) {
			t.Errorf("Begin({%d %d}, %d): %v, %d", c.mode, c.days, c.t, l, e)
		}
	}
	for _, at := range times {
		if l, e := Begin(api.Default{}, at); l != (api.Lock{}) || e != api.OK {
			t.Errorf("Begin of Open at %d: %v, %d", at, l, e)
		}
		if l, e := Begin(api.Default{Mode: 1}, at); l != (api.Lock{}) || e != api.ErrForm {
			t.Errorf("Begin of no days at %d: %v, %d", at, l, e)
		}
	}
}

func TestCovers(t *testing.T) {
	gov := api.Lock{Mode: 1, Until: 100}
	com := api.Lock{Mode: 2, Until: 100}
	all := api.Lock{Mode: 2, Until: 100, Hold: true}
	for _, c := range []struct {
		a, b   api.Lock
		t      int64
		covers bool
	}{
		{gov, gov, 99, true}, {com, com, 99, true}, {all, all, 99, true}, {api.Lock{}, api.Lock{}, 0, true},
		// Each of the three parts alone is wrong.
		{api.Lock{Mode: 2, Until: 100}, all, 99, false}, {api.Lock{Mode: 1, Until: 100, Hold: true}, all, 99, false},
		{api.Lock{Mode: 2, Until: 99, Hold: true}, all, 99, false}, {api.Lock{Mode: 2, Until: 99, Hold: true}, all, 50, false},
		{api.Lock{Until: 100, Hold: true}, all, 99, false},
		// More is as good.
		{com, gov, 99, true}, {api.Lock{Mode: 1, Until: 101}, gov, 99, true}, {all, com, 99, true}, {api.Lock{Hold: true}, api.Lock{}, 0, true},
		// What doesn't bind needs nothing but its hold.
		{api.Lock{}, com, 100, true}, {api.Lock{}, com, 99, false}, {gov, com, 100, true}, {api.Lock{Mode: 2, Until: 5}, com, 101, true},
		{api.Lock{Hold: true}, all, 100, true}, {api.Lock{}, all, 100, false}, {com, all, 100, false}, {com, api.Lock{Hold: true}, 0, false},
		// It is not asked whether the first one binds, nor whether they are sound.
		{com, api.Lock{Mode: 1, Until: 100}, 100, true}, {api.Lock{Mode: 7, Until: 100}, com, 99, true},
		{com, api.Lock{Mode: 3, Until: 100}, 99, false}, {api.Lock{}, api.Lock{Mode: -1, Until: 100}, 99, false},
		{api.Lock{Until: 100}, api.Lock{Mode: -1, Until: 100}, 99, true}, {api.Lock{}, api.Lock{Until: 100}, 99, true},
	} {
		if Covers(c.a, c.b, c.t) != c.covers {
			t.Errorf("Covers(%v, %v, %d): %v", c.a, c.b, c.t, !c.covers)
		}
	}
}

// All modes, with all times, are held against the second reading.
func TestEverywhere(t *testing.T) {
	locks := allLocks()
	for _, l := range locks {
		for _, at := range times {
			oneAsRead(t, l, at)
		}
	}
	for _, at := range []int64{math.MinInt64, firstMoment - 1, -1, 0, 99, 100, lastMoment, math.MaxInt64} {
		for _, a := range locks {
			for _, b := range locks {
				coversAsRead(t, a, b, at)
				if a.Hold {
					retainAsRead(t, b, a.Mode, a.Until, at)
				}
			}
		}
	}
	for _, mode := range modes {
		for days := -400; days < 37000; days++ {
			beginAsRead(t, api.Default{Mode: mode, Days: days}, times[(days+400)%len(times)])
		}
	}
}

// Near numbers, of which many are the same, and any numbers at all.
func TestDrawn(t *testing.T) {
	r := rand.New(rand.NewSource(12))
	draw := func() int64 {
		switch r.Intn(4) {
		case 0:
			return times[r.Intn(len(times))] + r.Int63n(3) - 1
		case 1:
			return int64(r.Uint64())
		}
		return r.Int63n(5)
	}
	lock := func() api.Lock {
		return api.Lock{Mode: r.Intn(5) - 1, Until: draw(), Hold: r.Intn(2) == 0}
	}
	for range 300000 {
		a, b, at := lock(), lock(), draw()
		oneAsRead(t, a, at)
		coversAsRead(t, a, b, at)
		retainAsRead(t, a, b.Mode, b.Until, at)
		beginAsRead(t, api.Default{Mode: b.Mode, Days: int(draw())}, at)
	}
}

// What locks let be done hangs together: compliance that binds stays, and a lock that was changed covers the former one.
func TestTogether(t *testing.T) {
	locks := slices.DeleteFunc(allLocks(), func(l api.Lock) bool { return !Sound(l) })
	for _, a := range locks {
		for _, b := range locks {
			for _, at := range times {
				l, e := Retain(a, b.Mode, b.Until, at, false)
				if e == api.OK && (!Sound(l) || !Covers(l, a, at)) {
					t.Fatalf("%v became %v at %d", a, l, at)
				}
				l, e = Retain(a, b.Mode, b.Until, at, true)
				if e == api.OK && a.Mode == api.Compliance && !Covers(l, a, at) {
					t.Fatalf("%v became %v at %d", a, l, at)
				}
			}
		}
		for _, at := range times {
			if e := Erase(a, at, false); (e == api.OK) == Held(a, at) {
				t.Fatalf("Erase(%v, %d): %d", a, at, e)
			}
			if !Covers(a, a, at) {
				t.Fatalf("%v does not cover itself at %d", a, at)
			}
		}
	}
}
