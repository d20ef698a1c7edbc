package when

import (
	"math"
	"math/big"
	"math/rand"
	"regexp"
	"strings"
	"testing"
	"time"

	"chartulary/api"
)

// library: the date that the library has for a moment.
func library(t int64) Date {
	u := time.Unix(t, 0).UTC()
	return Date{u.Year(), int(u.Month()), u.Day(), u.Hour(), u.Minute(), u.Second()}
}

// someMoments are those at and beside the ends, at and beside 0 and each beginning of a year, and some that a fixed seed gives.
func someMoments() []int64 {
	list := []int64{api.MinTime, api.MinTime + 1, api.MaxTime - 1, api.MaxTime, -1, 0, 1, -api.Day, -api.Day - 1, -api.Day + 1, api.Day - 1, api.Day}
	for year := 2; year <= 9999; year++ {
		begin := time.Date(year, 1, 1, 0, 0, 0, 0, time.UTC).Unix()
		list = append(list, begin-1, begin, begin+1)
	}
	r := rand.New(rand.NewSource(1))
	for range 20000 {
		list = append(list, api.MinTime+r.Int63n(api.MaxTime-api.MinTime+1))
	}
	return list
}

// noMoments are numbers beyond the ends.
func noMoments() []int64 {
	return []int64{api.MinTime - 1, api.MaxTime + 1, api.MinTime - api.Day, api.MaxTime + api.Day, math.MinInt64, math.MinInt64 + 1, math.MaxInt64 - 1, math.MaxInt64}
}

// P5.1

func TestDates(t *testing.T) {
	for _, c := range []struct {
		d       Date
		n       int64
		weekday int
	}{
		{Date{1970, 1, 1, 0, 0, 0}, 0, 3},
		{Date{1969, 12, 31, 23, 59, 59}, -1, 2},
		{Date{1, 1, 1, 0, 0, 0}, api.MinTime, 0},
		{Date{1, 1, 1, 0, 0, 1}, api.MinTime + 1, 0},
		{Date{9999, 12, 31, 23, 59, 59}, api.MaxTime, 4},
		{Date{9999, 12, 31, 23, 59, 58}, api.MaxTime - 1, 4},
		{Date{2000, 2, 29, 12, 30, 45}, 951827445, 1},
		{Date{2000, 3, 1, 0, 0, 0}, 951868800, 2},
		{Date{1900, 2, 28, 23, 59, 59}, -2203891201, 2},
		{Date{1900, 3, 1, 0, 0, 0}, -2203891200, 3},
		{Date{2038, 1, 19, 3, 14, 7}, math.MaxInt32, 1},
		{Date{2026, 11, 18, 0, 0, 0}, 1794960000, 2},
	} {
		if n, e := Seconds(c.d); n != c.n || e != api.OK {
			t.Errorf("Seconds(%v): %d, %d", c.d, n, e)
		}
		if d, e := Fields(c.n); d != c.d || e != api.OK {
			t.Errorf("Fields(%d): %v, %d", c.n, d, e)
		}
		if w, e := Weekday(c.n); w != c.weekday || e != api.OK {
			t.Errorf("Weekday(%d): %d, %d", c.n, w, e)
		}
	}
}

// sameAsLibrary holds a moment's date, its way back and its weekday against the library.
func sameAsLibrary(t *testing.T, n int64) {
	t.Helper()
	want := library(n)
	if d, e := Fields(n); d != want || e != api.OK {
		t.Fatalf("Fields(%d): %v, %d, not %v", n, d, e, want)
	}
	if back, e := Seconds(want); back != n || e != api.OK {
		t.Fatalf("Seconds(%v): %d, %d", want, back, e)
	}
	weekday := (int(time.Unix(n, 0).UTC().Weekday()) + 6) % 7
	if w, e := Weekday(n); w != weekday || e != api.OK {
		t.Fatalf("Weekday(%d): %d, %d, not %d", n, w, e, weekday)
	}
}

// Every day that there is, at some moment of it, and its ends by turns.
func TestAllDays(t *testing.T) {
	r := rand.New(rand.NewSource(2))
	days := 0
	for n := int64(api.MinTime); n < api.MaxTime; n += api.Day {
		switch days % 3 {
		case 0:
			sameAsLibrary(t, n)
		case 1:
			sameAsLibrary(t, n+api.Day-1)
		default:
			sameAsLibrary(t, n+r.Int63n(api.Day))
		}
		days++
	}
	if days != 3652059 {
		t.Errorf("%d days", days)
	}
}

func TestSomeMoments(t *testing.T) {
	for _, n := range someMoments() {
		sameAsLibrary(t, n)
	}
}

// Every second of a day, ahead of 1970 and behind.
func TestAllSecondsOfADay(t *testing.T) {
	for s := range int64(api.Day) {
		sameAsLibrary(t, s)
		sameAsLibrary(t, s-api.Day)
	}
}

func TestNoMoments(t *testing.T) {
	for _, n := range noMoments() {
		if d, e := Fields(n); d != (Date{}) || e != api.ErrRange {
			t.Errorf("Fields(%d): %v, %d", n, d, e)
		}
		if w, e := Weekday(n); w != 0 || e != api.ErrRange {
			t.Errorf("Weekday(%d): %d, %d", n, w, e)
		}
		if s, e := Text(n); s != "" || e != api.ErrRange {
			t.Errorf("Text(%d): %q, %d", n, s, e)
		}
	}
}

func refuseDate(t *testing.T, d Date) {
	t.Helper()
	if n, e := Seconds(d); n != 0 || e != api.ErrRange {
		t.Errorf("Seconds(%v): %d, %d", d, n, e)
	}
}

// Each field at the ends of what there is, and at all numbers beside them.
func TestFieldsOfDates(t *testing.T) {
	wild := []int{math.MinInt, math.MinInt + 1, math.MinInt32, -10000, -400, -100, -60, -24, -13, -1, 256, 400, 10000, 1 << 16, math.MaxInt32, math.MaxInt - 1, math.MaxInt}
	for i := -2; i < 120; i++ {
		wild = append(wild, i)
	}
	for _, n := range wild {
		for _, c := range []struct {
			d           Date
			least, most int
		}{
			{Date{n, 2, 28, 23, 59, 59}, 1, 9999},
			{Date{2000, n, 1, 0, 0, 0}, 1, 12},
			{Date{2000, 1, n, 0, 0, 0}, 1, 31},
			{Date{2000, 2, n, 0, 0, 0}, 1, 29},
			{Date{2001, 2, n, 0, 0, 0}, 1, 28},
			{Date{2000, 4, n, 0, 0, 0}, 1, 30},
			{Date{9999, 12, n, 0, 0, 0}, 1, 31},
			{Date{2000, 1, 1, n, 0, 0}, 0, 23},
			{Date{2000, 1, 1, 0, n, 0}, 0, 59},
			{Date{2000, 1, 1, 0, 0, n}, 0, 59},
		} {
			if n < c.least || n > c.most {
				refuseDate(t, c.d)
				continue
			}
			want := time.Date(c.d.Year, time.Month(c.d.Month), c.d.Day, c.d.Hour, c.d.Minute, c.d.Second, 0, time.UTC).Unix()
			if got, e := Seconds(c.d); got != want || e != api.OK {
				t.Errorf("Seconds(%v): %d, %d, not %d", c.d, got, e, want)
			}
		}
	}
	for _, d := range []Date{{}, {0, 1, 1, 0, 0, 0}, {0, 12, 31, 23, 59, 59}, {10000, 1, 1, 0, 0, 0}, {-1, 1, 1, 0, 0, 0}, {9999, 12, 31, 24, 0, 0}, {1, 1, 0, 0, 0, 0}, {1, 0, 1, 0, 0, 0}, {1, 1, 1, 0, 0, -1}, {9999, 12, 31, 23, 59, 60}} {
		refuseDate(t, d)
	}
}

// The last day of each month of each year, and the one behind it, which is none.
func TestMonths(t *testing.T) {
	for year := 1; year <= 9999; year++ {
		for month := 1; month <= 12; month++ {
			last := time.Date(year, time.Month(month+1), 0, 0, 0, 0, 0, time.UTC)
			d := Date{year, month, last.Day(), 0, 0, 0}
			if n, e := Seconds(d); n != last.Unix() || e != api.OK {
				t.Fatalf("Seconds(%v): %d, %d", d, n, e)
			}
			d.Day++
			refuseDate(t, d)
		}
	}
}

func TestLeapYears(t *testing.T) {
	for year, leap := range map[int]bool{1: false, 4: true, 100: false, 400: true, 1900: false, 1996: true, 1999: false, 2000: true, 2001: false, 2004: true, 2100: false, 2400: true, 9996: true, 9999: false} {
		_, e := Seconds(Date{year, 2, 29, 0, 0, 0})
		if leap != (e == api.OK) {
			t.Errorf("%d: %d", year, e)
		}
		if !leap {
			refuseDate(t, Date{year, 2, 29, 0, 0, 0})
		}
	}
}

// P5.2

func TestText(t *testing.T) {
	for s, n := range map[string]int64{
		"0001-01-01T00:00:00Z": api.MinTime,
		"0001-01-01T00:00:01Z": api.MinTime + 1,
		"9999-12-31T23:59:59Z": api.MaxTime,
		"9999-12-31T23:59:58Z": api.MaxTime - 1,
		"1970-01-01T00:00:00Z": 0,
		"1969-12-31T23:59:59Z": -1,
		"2000-02-29T12:30:45Z": 951827445,
		"0987-06-05T04:03:02Z": -31007044618,
	} {
		if got, e := Text(n); got != s || e != api.OK {
			t.Errorf("Text(%d): %q, %d", n, got, e)
		}
		if got, e := Parse(s); got != n || e != api.OK {
			t.Errorf("Parse(%q): %d, %d", s, got, e)
		}
	}
	for _, n := range someMoments() {
		want := time.Unix(n, 0).UTC().Format("2006-01-02T15:04:05Z")
		if s, e := Text(n); s != want || e != api.OK {
			t.Fatalf("Text(%d): %q, %d", n, s, e)
		}
		if back, e := Parse(want); back != n || e != api.OK {
			t.Fatalf("Parse(%q): %d, %d", want, back, e)
		}
	}
}

func refuseText(t *testing.T, s string, want api.Errno) {
	t.Helper()
	if n, e := Parse(s); n != 0 || e != want {
		t.Errorf("Parse(%q): %d, %d, not %d", s, n, e, want)
	}
}

// Texts of the form that are no date have the error of Seconds.
func TestParseOfNoDates(t *testing.T) {
	for _, s := range []string{
		"0000-01-01T00:00:00Z", "0000-12-31T23:59:59Z", "0000-00-00T00:00:00Z", "9999-99-99T99:99:99Z",
		"2000-00-01T00:00:00Z", "2000-13-01T00:00:00Z", "2000-99-01T00:00:00Z",
		"2000-01-00T00:00:00Z", "2000-01-32T00:00:00Z", "2000-02-30T00:00:00Z", "2001-02-29T00:00:00Z", "1900-02-29T00:00:00Z", "2000-04-31T00:00:00Z",
		"2000-01-01T24:00:00Z", "2000-01-01T99:00:00Z", "2000-01-01T00:60:00Z", "2000-01-01T00:00:60Z", "2016-12-31T23:59:60Z",
	} {
		refuseText(t, s, api.ErrRange)
	}
}

func TestParseOfWrongTexts(t *testing.T) {
	for _, s := range []string{
		"", "Z", "0", "2000", "2000-01-01", "2000-01-01T00:00Z", "2000-01-01T00:00:00", "2000-01-01T00:00:00z", "2000-01-01t00:00:00Z",
		"2000-01-01 00:00:00Z", "2000-1-01T00:00:00Z", "2000-1-1T0:0:0Z", "00-01-01T00:00:00Z", "02000-01-01T00:00:00Z", "12000-01-01T00:00:00Z",
		"2000/01/01T00:00:00Z", "2000-01-01T00-00-00Z", "2000-01-01T00.00.00Z", "20000101T000000Z", "2000-01-01T00:00:00+", "2000-01-01T00:00:00.0Z",
		"+200-01-01T00:00:00Z", "-200-01-01T00:00:00Z", " 200-01-01T00:00:00Z", "2000-01-01T00:00:00Z ", " 2000-01-01T00:00:00Z", "2000-01-01T00:00:00ZZ", "2000-01-01T00:00:00Z\n", "2000-01-01T00:00:00Z\x00",
		"20a0-01-01T00:00:00Z", "0x10-01-01T00:00:00Z", "2_00-01-01T00:00:00Z", "2000-+1-01T00:00:00Z", "2000-01--1T00:00:00Z",
		"２000-01-01T00:00:00Z", "２0-01-01T00:00:00Z", "2001-02-29T00:00:00", "2000-99-99X99:99:99Z", "0000-00-00T00:00:00X",
		"2000-01-01T24:00:0aZ", "0000-13-32T24:60:60\x00", strings.Repeat("0", 20), strings.Repeat("\x00", 20), strings.Repeat("\xff", 20), strings.Repeat("2000-01-01T00:00:00Z", 4000),
	} {
		refuseText(t, s, api.ErrText)
	}
}

// Every byte at every place of a text: the form decides alone between the two errors.
func TestParseByPlaces(t *testing.T) {
	shape := regexp.MustCompile(`\A[0-9]{4}-[0-9]{2}-[0-9]{2}T[0-9]{2}:[0-9]{2}:[0-9]{2}Z\z`)
	for _, text := range []string{"2000-02-29T12:30:45Z", "0001-01-01T00:00:00Z", "9999-12-31T23:59:59Z"} {
		for i := range len(text) {
			for c := range 256 {
				s := text[:i] + string([]byte{byte(c)}) + text[i+1:]
				if !shape.MatchString(s) {
					refuseText(t, s, api.ErrText)
					continue
				}
				u, err := time.Parse("2006-01-02T15:04:05Z", s)
				if err != nil || u.Year() == 0 {
					refuseText(t, s, api.ErrRange)
				} else if n, e := Parse(s); n != u.Unix() || e != api.OK {
					t.Errorf("Parse(%q): %d, %d", s, n, e)
				}
			}
			refuseText(t, text[:i], api.ErrText)
			refuseText(t, text[:i]+text[i+1:], api.ErrText)
			refuseText(t, text[:i]+"0"+text[i:], api.ErrText)
		}
	}
}

func TestClamp(t *testing.T) {
	for _, n := range someMoments() {
		if got := Clamp(n); got != n {
			t.Fatalf("Clamp(%d): %d", n, got)
		}
	}
	for _, n := range noMoments() {
		want := int64(api.MinTime)
		if n > 0 {
			want = api.MaxTime
		}
		if got := Clamp(n); got != want {
			t.Errorf("Clamp(%d): %d", n, got)
		}
	}
}

// clamped: Days, reckoned with numbers of any size.
func clamped(n int64, days int) int64 {
	least, most := big.NewInt(api.MinTime), big.NewInt(api.MaxTime)
	clamp := func(x *big.Int) *big.Int {
		if x.Cmp(least) < 0 {
			return least
		}
		if x.Cmp(most) > 0 {
			return most
		}
		return x
	}
	more := new(big.Int).Mul(big.NewInt(int64(days)), big.NewInt(86400))
	return clamp(new(big.Int).Add(clamp(big.NewInt(n)), more)).Int64()
}

func TestDays(t *testing.T) {
	for _, c := range []struct {
		n    int64
		days int
		want int64
	}{
		{0, 0, 0},
		{0, 3, 3 * api.Day},
		{0, -1, -api.Day},
		{5, math.MaxInt, api.MaxTime},
		{5, math.MinInt, api.MinTime},
		{api.MaxTime, 1, api.MaxTime},
		{api.MinTime, -1, api.MinTime},
		{api.MinTime, 3652058, api.MaxTime - api.Day + 1},
		{api.MinTime, 3652059, api.MaxTime},
		{api.MaxTime, -3652058, api.MinTime + api.Day - 1},
		{api.MaxTime, -3652059, api.MinTime},
		{math.MaxInt64, -1, api.MaxTime - api.Day},
		{math.MinInt64, 1, api.MinTime + api.Day},
		{math.MaxInt64, math.MinInt, api.MinTime},
		{math.MinInt64, math.MaxInt, api.MaxTime},
	} {
		if got := Days(c.n, c.days); got != c.want {
			t.Errorf("Days(%d, %d): %d", c.n, c.days, got)
		}
	}
}

func TestDaysOfAnyNumber(t *testing.T) {
	moments := append(noMoments(), api.MinTime, api.MinTime+1, api.MinTime+api.Day, -1, 0, 1, api.MaxTime-api.Day, api.MaxTime-1, api.MaxTime)
	days := []int{0, 3652057, 3652058, 3652059, 3652060, math.MaxInt / api.Day, math.MaxInt/api.Day + 1}
	// Products that wrap round to small numbers must not pass for them.
	for i := range 63 {
		days = append(days, 1<<i, 1<<i-1, 1<<i+1)
	}
	r := rand.New(rand.NewSource(3))
	for range 500 {
		days = append(days, r.Int()>>(r.Intn(63)))
		moments = append(moments, int64(r.Uint64())>>r.Intn(64))
	}
	for _, n := range moments {
		for _, d := range days {
			for _, d := range []int{d, -d, ^d} {
				if got := Days(n, d); got != clamped(n, d) {
					t.Fatalf("Days(%d, %d): %d, not %d", n, d, got, clamped(n, d))
				}
			}
		}
	}
}

// P5.3

func TestSpan(t *testing.T) {
	for s, n := range map[string]int64{
		"PT0S":                        0,
		"PT1S":                        1,
		"-PT1S":                       -1,
		"PT10S":                       10,
		"PT59S":                       59,
		"PT1M":                        60,
		"-PT1M":                       -60,
		"PT1M1S":                      61,
		"PT59M59S":                    3599,
		"PT1H":                        3600,
		"PT1H1S":                      3601,
		"PT1H1M":                      3660,
		"PT23H59M59S":                 86399,
		"P1D":                         86400,
		"-P1D":                        -86400,
		"P1DT1S":                      86401,
		"P1DT1M":                      86460,
		"P1DT1H":                      90000,
		"P10D":                        864000,
		"P2DT3H4M5S":                  183845,
		"-P2DT3H4M5S":                 -183845,
		"P106751991167300DT15H30M6S":  math.MaxInt64 - 1,
		"P106751991167300DT15H30M7S":  math.MaxInt64,
		"-P106751991167300DT15H30M7S": math.MinInt64 + 1,
		"-P106751991167300DT15H30M8S": math.MinInt64,
		"P106751991167300D":           106751991167300 * 86400,
		"-P106751991167300D":          -106751991167300 * 86400,
	} {
		if got := Span(n); got != s {
			t.Errorf("Span(%d): %q", n, got)
		}
		if got, e := ParseSpan(s); got != n || e != api.OK {
			t.Errorf("ParseSpan(%q): %d, %d", s, got, e)
		}
	}
}

// plainSpan: the Span of a number, by numbers of any size and the library's own text of them.
func plainSpan(n int64) string {
	if n == 0 {
		return "PT0S"
	}
	size := new(big.Int).Abs(big.NewInt(n))
	parts := map[string]string{}
	for _, p := range []struct {
		letter string
		count  int64
	}{{"S", 60}, {"M", 60}, {"H", 24}} {
		rest := new(big.Int)
		size.QuoRem(size, big.NewInt(p.count), rest)
		if rest.Sign() > 0 {
			parts[p.letter] = rest.String() + p.letter
		}
	}
	out := "P"
	if n < 0 {
		out = "-P"
	}
	if size.Sign() > 0 {
		out += size.String() + "D"
	}
	if len(parts) > 0 {
		out += "T" + parts["H"] + parts["M"] + parts["S"]
	}
	return out
}

// someNumbers are all below some days, those at and beside each power of two, and some that a fixed seed gives.
func someNumbers() []int64 {
	var list []int64
	for n := range int64(2*api.Day + 3700) {
		list = append(list, n, -n)
	}
	for i := range 64 {
		p := int64(1) << i
		list = append(list, p-1, p, p+1, -p, ^p)
	}
	r := rand.New(rand.NewSource(4))
	for i := range 20000 {
		n := int64(r.Uint64()) >> (i % 64)
		list = append(list, n, n/api.Day*api.Day, n/hour*hour, n/minute*minute)
	}
	return append(list, math.MinInt64, math.MaxInt64)
}

func TestSpanOfSomeNumbers(t *testing.T) {
	for _, n := range someNumbers() {
		s := Span(n)
		if s != plainSpan(n) {
			t.Fatalf("Span(%d): %q, not %q", n, s, plainSpan(n))
		}
		if back, e := ParseSpan(s); back != n || e != api.OK {
			t.Fatalf("ParseSpan(%q): %d, %d", s, back, e)
		}
	}
}

func refuseSpan(t *testing.T, s string) {
	t.Helper()
	if n, e := ParseSpan(s); n != 0 || e != api.ErrText {
		t.Errorf("ParseSpan(%q): %d, %d", s, n, e)
	}
}

func TestParseSpanOfWrongTexts(t *testing.T) {
	for _, s := range []string{
		"", "P", "PT", "T", "-", "-P", "-PT", "0", "0S", "1S", "T1S", "1D", "P1", "PT1", "P1DT1", "P1S", "P1H", "P1M", "PT1D", "PD", "PTS", "PTH", "PTM", "PDTHMS",
		"P0D", "P0DT0S", "PT0H", "PT0M", "PT0H0M0S", "-PT0S", "-P0D", "P1DT", "P1DT0S", "P0DT1S", "PT1H0M1S", "PT0H1S", "PT1M0S", "P1DT0H1S", "P00D",
		"PT60S", "PT61S", "PT60M", "PT24H", "PT86400S", "PT99S", "PT1M60S", "P1DT24H", "PT100H",
		"PT01S", "PT00S", "P01D", "PT01M", "PT01H", "P01DT1S", "P1DT01S", "PT1H01M",
		"PT1M1H", "PT1S1M", "PT1SP1D", "P1D1H", "P1D1S", "PT1S1S", "P1D1D", "PT1HT1S", "PP1D", "P1DP1D", "TP1S", "P1DT1ST", "P1W", "P1Y", "P1YT1S", "P1MT1S",
		"--PT1S", "+PT1S", "P-1D", "PT-1S", "-P-1D", "P+1D", "PT+1S", "PT1S-", "-PT-1S", "PT1.0S", "PT1,5S", "PT0.5S", "PT1_0S", "PT0x1S", "PT1e1S",
		"pt1s", "Pt1S", "PT1s", "p1d", " PT1S", "PT1S ", "PT 1S", "PT1 S", "PT1S\n", "PT1S\x00", "\x00PT1S", "P\x00T1S", "PT１S", "PT\xffS", "PT/S", "PT:S",
		"P106751991167300DT15H30M8S", "-P106751991167300DT15H30M9S", "P106751991167300DT15H31M", "P106751991167300DT16H", "P106751991167301D", "-P106751991167301D",
		"P99999999999999999999D", "-P99999999999999999999D", "P213503982334601DT7H16S", "P213503982334601DT7H17S", "-P213503982334601DT7H17S",
		"PT18446744073709551617S", "P18446744073709551617D", "P1DT18446744073709551617S", strings.Repeat("9", 100), "P" + strings.Repeat("9", 5000) + "D", "P" + strings.Repeat("0", 5000) + "1D",
		strings.Repeat("-", 65537), strings.Repeat("PT1S", 20000), strings.Repeat("\xff", 1000),
	} {
		refuseSpan(t, s)
	}
}

// spanForm has all Spans but that of 0, and some texts that are none.
var spanForm = regexp.MustCompile(`\A(-?)P(?:([1-9][0-9]*)D)?(?:T(?:([1-9][0-9]*)H)?(?:([1-9][0-9]*)M)?(?:([1-9][0-9]*)S)?)?\z`)

// spanWorth: the number that a text is the Span of, by its form and by numbers of any size, and whether there is one.
func spanWorth(s string) (int64, bool) {
	m := spanForm.FindStringSubmatch(s)
	if s == "PT0S" {
		return 0, true
	}
	if m == nil || m[2]+m[3]+m[4]+m[5] == "" || strings.HasSuffix(s, "T") {
		return 0, false
	}
	all := new(big.Int)
	for i, count := range []int64{86400, 3600, 60, 1} {
		part, ok := new(big.Int).SetString("0"+m[2+i], 10)
		if !ok || i > 0 && part.Cmp(big.NewInt([]int64{0, 24, 60, 60}[i])) >= 0 {
			return 0, false
		}
		all.Add(all, part.Mul(part, big.NewInt(count)))
	}
	if m[1] == "-" {
		all.Neg(all)
	}
	return all.Int64(), all.IsInt64()
}

// checkSpan holds ParseSpan of a text against spanWorth, and tells whether it is a Span.
func checkSpan(t *testing.T, s string) bool {
	t.Helper()
	want, ok := spanWorth(s)
	if !ok {
		refuseSpan(t, s)
	} else if n, e := ParseSpan(s); n != want || e != api.OK {
		t.Errorf("ParseSpan(%q): %d, %d, not %d", s, n, e, want)
	}
	return ok
}

// Every byte at every place of some Spans, every byte of them left out, and signs put in.
func TestParseSpanByPlaces(t *testing.T) {
	right, wrong := 0, 0
	try := func(s string) {
		if checkSpan(t, s) {
			right++
		} else {
			wrong++
		}
	}
	for _, text := range []string{"PT0S", "P1D", "-PT1M", "PT5H", "P2DT3H4M5S", "-P20DT23H59M59S", "P106751991167300DT15H30M7S", "-P106751991167300DT15H30M8S"} {
		for i := range len(text) {
			try(text[:i])
			try(text[:i] + text[i+1:])
			for c := range 256 {
				try(text[:i] + string([]byte{byte(c)}) + text[i+1:])
				try(text[:i] + string([]byte{byte(c)}) + text[i:])
			}
		}
	}
	if right < 500 || wrong < 10000 {
		t.Errorf("%d right, %d wrong", right, wrong)
	}
}

// All short texts of the letters: just those are taken that are Spans.
func TestParseSpanOfShortTexts(t *testing.T) {
	texts := []string{""}
	for range 6 {
		var longer []string
		for _, s := range texts {
			for _, c := range "-PT01DHMS" {
				longer = append(longer, s+string(c))
			}
		}
		for _, s := range longer {
			checkSpan(t, s)
		}
		texts = longer
	}
}

// P1: any bytes at all are answered.
func TestAnyBytes(t *testing.T) {
	r := rand.New(rand.NewSource(5))
	for range 20000 {
		b := make([]byte, r.Intn(40))
		r.Read(b)
		refuseText(t, string(b), api.ErrText)
		refuseSpan(t, string(b))
	}
}
