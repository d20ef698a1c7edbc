package tags

import (
	"fmt"
	"math/rand"
	"slices"
	"strings"
	"testing"
	"unicode/utf8"

	"chartulary/api"
)

func tag(name, value string) api.Tag { return api.Tag{Name: name, Value: value} }

// pairs: tags of names and values by turns.
func pairs(sides ...string) []api.Tag {
	var list []api.Tag
	for i := 0; i < len(sides); i += 2 {
		list = append(list, tag(sides[i], sides[i+1]))
	}
	return list
}

// row: so many sound tags.
func row(n int) []api.Tag {
	var list []api.Tag
	for i := range n {
		list = append(list, tag(fmt.Sprintf("n%02d", i), fmt.Sprint(i)))
	}
	return list
}

func oneByte(c int) string { return string([]byte{byte(c)}) }

// words: all texts of the letters, of at most so many bytes.
func words(letters string, most int) []string {
	list := []string{""}
	from := 0
	for range most {
		to := len(list)
		for _, s := range list[from:to] {
			for i := range len(letters) {
				list = append(list, s+letters[i:i+1])
			}
		}
		from = to
	}
	return list
}

// lists: all lists of the tags, of at most so many.
func lists(some []api.Tag, most int) [][]api.Tag {
	all := [][]api.Tag{nil}
	from := 0
	for range most {
		to := len(all)
		for _, list := range all[from:to] {
			for _, t := range some {
				all = append(all, append(slices.Clone(list), t))
			}
		}
		from = to
	}
	return all
}

// roomy: the same list, with spare room behind it that is not empty.
func roomy(list []api.Tag) []api.Tag {
	room := append(slices.Clone(list), pairs("spare", "1", "spare", "2", "a", "3")...)
	return room[:len(list)]
}

// whole: a list with its spare room.
func whole(list []api.Tag) []api.Tag { return list[:cap(list)] }

// textByWords: whether a text is as the section Words says, by its signs.
func textByWords(s string, least int) bool {
	if len(s) < least || len(s) > 64 {
		return false
	}
	// Where bytes are no UTF-8, their signs written again are others.
	if string([]rune(s)) != s {
		return false
	}
	for _, r := range s {
		if r < 32 || r == 127 {
			return false
		}
	}
	return true
}

// soundByWords: the section Words, read for each tag and for each pair of them.
func soundByWords(list []api.Tag) bool {
	if len(list) > 8 {
		return false
	}
	for i, t := range list {
		if !textByWords(t.Name, 1) || !textByWords(t.Value, 0) {
			return false
		}
		for _, behind := range list[i+1:] {
			if slices.Compare([]byte(t.Name), []byte(behind.Name)) >= 0 {
				return false
			}
		}
	}
	return true
}

// inOrder: the tags of a list by their Names, the least one first; none of them is twice.
func inOrder(list []api.Tag) []api.Tag {
	out := make([]api.Tag, len(list))
	for _, t := range list {
		below := 0
		for _, other := range list {
			if other.Name < t.Name {
				below++
			}
		}
		out[below] = t
	}
	return out
}

func isDouble(list []api.Tag) bool {
	for i, t := range list {
		for _, behind := range list[i+1:] {
			if t.Name == behind.Name {
				return true
			}
		}
	}
	return false
}

// makeByWords: P8.1 of Make, error by error.
func makeByWords(list []api.Tag) ([]api.Tag, api.Errno) {
	if len(list) > 8 {
		return nil, api.ErrFull
	}
	if isDouble(list) {
		return nil, api.ErrThere
	}
	out := inOrder(list)
	if !soundByWords(out) {
		return nil, api.ErrForm
	}
	return out, api.OK
}

const plain = "abcdefghijklmnopqrstuvwxyzABCDEFGHIJKLMNOPQRSTUVWXYZ0123456789-._/"

func escaped(s string) string {
	out := ""
	for i := range len(s) {
		if strings.IndexByte(plain, s[i]) >= 0 {
			out += s[i : i+1]
		} else {
			out += fmt.Sprintf("%%%02X", s[i])
		}
	}
	return out
}

func written(list []api.Tag) string {
	out := ""
	for i, t := range list {
		if i > 0 {
			out += "&"
		}
		out += escaped(t.Name) + "=" + escaped(t.Value)
	}
	return out
}

// bytesOf: the bytes that are escaped so, each one looked up among all bytes.
func bytesOf(s string) (string, bool) {
	out := ""
next:
	for s != "" {
		for c := range 256 {
			if e := escaped(oneByte(c)); strings.HasPrefix(s, e) {
				out += oneByte(c)
				s = s[len(e):]
				continue next
			}
		}
		return "", false
	}
	return out, true
}

// parseByWords: P8.2 of Parse, error by error, from the text's end.
func parseByWords(s string) ([]api.Tag, api.Errno) {
	if s == "" {
		return nil, api.OK
	}
	var list []api.Tag
	for more := true; more; {
		at := strings.LastIndexByte(s, '&')
		part := s[at+1:]
		if more = at >= 0; more {
			s = s[:at]
		}
		if strings.Count(part, "=") != 1 {
			return nil, api.ErrText
		}
		middle := strings.IndexByte(part, '=')
		name, good := bytesOf(part[:middle])
		value, well := bytesOf(part[middle+1:])
		if !good || !well {
			return nil, api.ErrText
		}
		list = append(list, tag(name, value))
	}
	slices.Reverse(list)
	if !soundByWords(list) {
		return nil, api.ErrForm
	}
	return list, api.OK
}

// mergeByWords: P8.3, error by error.
func mergeByWords(a, b []api.Tag) ([]api.Tag, api.Errno) {
	if !soundByWords(a) || !soundByWords(b) {
		return nil, api.ErrForm
	}
	all := slices.Clone(b)
	for _, t := range a {
		if !slices.ContainsFunc(b, func(o api.Tag) bool { return o.Name == t.Name }) {
			all = append(all, t)
		}
	}
	if len(all) > 8 {
		return nil, api.ErrFull
	}
	return inOrder(all), api.OK
}

// isAnswer: whether a list and an error are what is wanted, and beside an error there is no list.
func isAnswer(got []api.Tag, e api.Errno, want []api.Tag, wantE api.Errno) bool {
	return e == wantE && slices.Equal(got, want) && (e == api.OK || cap(got) == 0)
}

func checkMake(t *testing.T, list []api.Tag) {
	t.Helper()
	want, wantE := makeByWords(list)
	if got, e := Make(list...); !isAnswer(got, e, want, wantE) {
		t.Errorf("Make(%q): %q, %d", list, got, e)
	}
}

func checkParse(t *testing.T, s string) {
	t.Helper()
	want, wantE := parseByWords(s)
	if got, e := Parse(s); !isAnswer(got, e, want, wantE) {
		t.Errorf("Parse(%q): %q, %d", s, got, e)
	}
}

func checkMerge(t *testing.T, a, b []api.Tag) {
	t.Helper()
	want, wantE := mergeByWords(a, b)
	if got, e := Merge(a, b); !isAnswer(got, e, want, wantE) {
		t.Errorf("Merge(%q, %q): %q, %d", a, b, got, e)
	}
}

// checkAlone: what all calls of one list say of it.
func checkAlone(t *testing.T, list []api.Tag) {
	t.Helper()
	sound := soundByWords(list)
	if Sound(list) != sound {
		t.Errorf("Sound(%q): %v", list, !sound)
	}
	checkMake(t, list)
	s, e := Text(list)
	if sound {
		if s != written(list) || e != api.OK {
			t.Errorf("Text(%q): %q, %d", list, s, e)
		}
		if back, e := Parse(s); !isAnswer(back, e, list, api.OK) {
			t.Errorf("Parse(%q): %q, %d", s, back, e)
		}
	} else if s != "" || e != api.ErrForm {
		t.Errorf("Text(%q): %q, %d", list, s, e)
	}
	// The text of a list that is not empty is no tags, if the list is none.
	if len(list) > 0 {
		checkParse(t, written(list))
	}
	for _, other := range [][]api.Tag{nil, pairs("a", "1"), pairs("n", "")} {
		checkMerge(t, list, other)
		checkMerge(t, other, list)
	}
	checkMerge(t, list, list)
}

// P8.1: Sound

func TestSound(t *testing.T) {
	for i, c := range []struct {
		list []api.Tag
		want bool
	}{
		{nil, true},
		{[]api.Tag{}, true},
		{pairs("a", ""), true},
		{pairs("a", "1"), true},
		{pairs("", ""), false},
		{pairs("", "1"), false},
		{pairs(" ", " "), true},
		{pairs("a", "1", "b", "2"), true},
		{pairs("a", "1", "b", "1"), true},
		{pairs("a", "2", "b", "1"), true},
		{pairs("b", "1", "a", "2"), false},
		{pairs("a", "1", "a", "1"), false},
		{pairs("a", "1", "a", "2"), false},
		{pairs("", "1", "a", "2"), false},
		{pairs("a", "1", "", "2"), false},
		{pairs("a", "", "b", "", "c", ""), true},
		{pairs("a", "", "c", "", "b", ""), false},
		{pairs("b", "", "a", "", "c", ""), false},
		{pairs("a", "", "b", "", "b", ""), false},
		{pairs("a", "", "b", "", "a", ""), false},
		{pairs("a", "", "ab", "", "b", ""), true},
		{pairs("ab", "", "a", ""), false},
		{pairs("A", "", "a", ""), true},
		{pairs("a", "", "A", ""), false},
		{pairs("Z", "", "a", ""), true},
		{pairs("10", "", "9", ""), true},
		{pairs("9", "", "10", ""), false},
		{pairs("a", "", "a ", ""), true},
		{pairs("z", "", "é", ""), true},
		{pairs("é", "", "z", ""), false},
		{pairs("e\u0301", "", "é", ""), true},
		// By bytes, not by halves of 16 bits, the one sign is above the other.
		{pairs("\uffff", "", "\U00010000", ""), true},
		{pairs("\U00010000", "", "\uffff", ""), false},
		{pairs("a=b&c", "=&=", "b%", "%"), true},
	} {
		if Sound(c.list) != c.want {
			t.Errorf("Sound %d of %q: %v", i, c.list, !c.want)
		}
		checkAlone(t, c.list)
	}
}

func TestSoundByNumbers(t *testing.T) {
	for n := range 40 {
		if want := n <= api.MaxTags; Sound(row(n)) != want {
			t.Errorf("Sound of %d: %v", n, !want)
		}
		checkAlone(t, row(n))
		checkAlone(t, make([]api.Tag, n))
	}
	if Sound(row(1 << 12)) {
		t.Error("Sound of many")
	}
	// Each place of a full list counts.
	for i := range api.MaxTags {
		for _, wrong := range []api.Tag{tag("", ""), tag("n", "\n"), tag("zz", ""), tag("n03", ""), tag("\xff", ""), tag("n0", strings.Repeat("v", 65))} {
			list := row(api.MaxTags)
			list[i] = wrong
			checkAlone(t, list)
		}
	}
}

func TestSoundByLengths(t *testing.T) {
	for n := range 300 {
		long := strings.Repeat("k", n)
		if want := n >= 1 && n <= api.MaxTag; Sound(pairs(long, "v")) != want {
			t.Errorf("Sound of a Name of %d bytes: %v", n, !want)
		}
		if want := n <= api.MaxTag; Sound(pairs("n", long)) != want {
			t.Errorf("Sound of a Value of %d bytes: %v", n, !want)
		}
		for _, list := range [][]api.Tag{pairs(long, ""), pairs("a", long), pairs(long, long), pairs("a", "", "k"+long, ""), pairs("a", "", "b", long)} {
			checkAlone(t, list)
		}
	}
	// Bytes are counted, not signs.
	for _, sign := range []string{"é", "日", "\U0001f600"} {
		for n := 1; n < 80; n++ {
			s := strings.Repeat(sign, n)
			if want := len(s) <= 64; Sound(pairs(s, "")) != want || Sound(pairs("a", s)) != want {
				t.Errorf("Sound of %d times %q: not %v", n, sign, want)
			}
		}
	}
	k := strings.Repeat("k", 62)
	for s, want := range map[string]bool{k + "é": true, k + "日": false, k + "k\xc3": false, k + "\xe6\x97": false, k + "k\n": false, "\x7f" + k: false, "\x00": false, k + " ~": true} {
		if Sound(pairs(s, "")) != want || Sound(pairs("a", s)) != want {
			t.Errorf("Sound of %q: not %v", s, want)
		}
	}
	if long := strings.Repeat("k", 1<<20); Sound(pairs(long, "")) || Sound(pairs("a", long)) {
		t.Error("Sound of a long text")
	}
}

func TestSoundOfBytes(t *testing.T) {
	for c := range 256 {
		want := c >= 32 && c < 127
		for _, s := range []string{oneByte(c), "ab" + oneByte(c), oneByte(c) + "ab", "a" + oneByte(c) + "b"} {
			if Sound(pairs(s, "v")) != want || Sound(pairs("n", s)) != want {
				t.Errorf("Sound of %q: not %v", s, want)
			}
			checkAlone(t, pairs(s, s))
		}
		for d := range 256 {
			pair := string([]byte{byte(c), byte(d)})
			if want := textByWords(pair, 1); Sound(pairs(pair, "")) != want || Sound(pairs("n", pair)) != want {
				t.Errorf("Sound of %q: not %v", pair, want)
			}
			// Names of one byte each rise as their bytes do.
			if list := pairs(oneByte(c), "", oneByte(d), ""); Sound(list) != (c >= 32 && c < d && d < 127) {
				t.Errorf("Sound(%q): %v", list, Sound(list))
			}
		}
	}
}

func TestSoundOfSigns(t *testing.T) {
	for r := rune(0); r <= utf8.MaxRune; r++ {
		// The library writes another sign in place of these.
		if r >= 0xD800 && r <= 0xDFFF {
			continue
		}
		s := string(r)
		if want := r >= 32 && r != 127; Sound(pairs(s, "")) != want || Sound(pairs("n", s)) != want {
			t.Fatalf("Sound of sign %d: not %v", r, want)
		}
	}
	for _, s := range []string{
		"\x80", "\xbf", "\xff", "\xfe", "a\xffb", "\xc3", "\xc3a", "a\xc3", "\xa9\xc3", "\xc3\xa9\xa9", "\xc0\x80", "\xc1\xbf", "\xe0\x80\x80", "\xe0\x9f\xbf", "\xf0\x8f\xbf\xbf",
		"\xed\xa0\x80", "\xed\xbf\xbf", "\xf4\x90\x80\x80", "\xf5\x80\x80\x80", "\xf8\x88\x80\x80\x80", "\xe2\x82", "\xf0\x9f\x98",
	} {
		if Sound(pairs(s, "")) || Sound(pairs("n", s)) {
			t.Errorf("Sound of %q", s)
		}
		checkAlone(t, pairs(s, ""))
		checkAlone(t, pairs("n", s))
	}
}

// P8.1: Make

func TestMake(t *testing.T) {
	for i, c := range []struct {
		list, want []api.Tag
	}{
		{nil, nil},
		{[]api.Tag{}, nil},
		{pairs("a", ""), pairs("a", "")},
		{pairs("b", "2", "a", "1"), pairs("a", "1", "b", "2")},
		{pairs("a", "1", "b", "2"), pairs("a", "1", "b", "2")},
		{pairs("b", "1", "a", "2"), pairs("a", "2", "b", "1")},
		{pairs("c", "", "a", "x", "b", "=&"), pairs("a", "x", "b", "=&", "c", "")},
		{pairs("é", "1", "z", "2", "Z", "3", "a", "4", "aa", "5"), pairs("Z", "3", "a", "4", "aa", "5", "z", "2", "é", "1")},
		{pairs("\U00010000", "1", "\uffff", "2"), pairs("\uffff", "2", "\U00010000", "1")},
		{pairs("9", "", "10", ""), pairs("10", "", "9", "")},
	} {
		if got, e := Make(c.list...); !isAnswer(got, e, c.want, api.OK) || !Sound(got) {
			t.Errorf("Make %d of %q: %q, %d", i, c.list, got, e)
		}
	}
	if got, e := Make(); !isAnswer(got, e, nil, api.OK) {
		t.Errorf("Make(): %q, %d", got, e)
	}
	if got, e := Make(tag("b", ""), tag("a", "")); !isAnswer(got, e, pairs("a", "", "b", ""), api.OK) {
		t.Errorf("Make of two: %q, %d", got, e)
	}
}

func TestMakeOfWrongLists(t *testing.T) {
	long := strings.Repeat("x", 65)
	for i, c := range []struct {
		list []api.Tag
		e    api.Errno
	}{
		{pairs("", ""), api.ErrForm},
		{pairs("a", "", "", ""), api.ErrForm},
		{pairs(long, ""), api.ErrForm},
		{pairs("a", long), api.ErrForm},
		{pairs("b", "", "a", long), api.ErrForm},
		{pairs("a\n", ""), api.ErrForm},
		{pairs("a", "\x7f"), api.ErrForm},
		{pairs("\xff", "", "a", ""), api.ErrForm},
		{pairs("a", "", "a", ""), api.ErrThere},
		{pairs("a", "1", "a", "2"), api.ErrThere},
		{pairs("a", "1", "b", "", "a", "2"), api.ErrThere},
		{pairs("b", "", "a", "1", "a", "2"), api.ErrThere},
		// More than one thing is wrong.
		{pairs("", "", "", ""), api.ErrThere},
		{pairs("", "1", "a", "", "", "2"), api.ErrThere},
		{pairs("\xff", "", "\xff", ""), api.ErrThere},
		{pairs(long, "", long, ""), api.ErrThere},
		{pairs("a", long, "a", ""), api.ErrThere},
		{pairs("a", "", "b", "", "a", "", "", "\x00"), api.ErrThere},
		{make([]api.Tag, 8), api.ErrThere},
		{make([]api.Tag, 9), api.ErrFull},
		{row(9), api.ErrFull},
		{append(row(8), row(1)...), api.ErrFull},
		{append(row(8), tag("", "")), api.ErrFull},
		{append(row(8), tag("a", long)), api.ErrFull},
		{append(row(7), row(1)...), api.ErrThere},
		{append(row(7), tag("", "")), api.ErrForm},
		{make([]api.Tag, 1<<16), api.ErrFull},
	} {
		if got, e := Make(c.list...); !isAnswer(got, e, nil, c.e) {
			t.Errorf("Make %d: %q, %d", i, got, e)
		}
		checkMake(t, c.list)
	}
}

func TestMakeOfManyOrders(t *testing.T) {
	draw := rand.New(rand.NewSource(8))
	for range 2000 {
		list := row(draw.Intn(10))
		draw.Shuffle(len(list), func(i, j int) { list[i], list[j] = list[j], list[i] })
		checkMake(t, list)
		if len(list) > 1 && draw.Intn(3) == 0 {
			list[0].Name = list[len(list)-1].Name
			checkMake(t, list)
		}
	}
}

func TestShortLists(t *testing.T) {
	for _, list := range lists(pairs("", "", "a", "1", "a", "2", "b", "\n", "\xff", "", "b&", "="), 4) {
		checkAlone(t, list)
	}
}

// P8.1: Same, Get, Within

func TestSame(t *testing.T) {
	for i, c := range []struct {
		a, b []api.Tag
		want bool
	}{
		{nil, nil, true},
		{nil, []api.Tag{}, true},
		{[]api.Tag{}, nil, true},
		{nil, pairs("", ""), false},
		{pairs("a", "1"), nil, false},
		{pairs("a", "1"), pairs("a", "1"), true},
		{pairs("a", "1"), pairs("a", "2"), false},
		{pairs("a", "1"), pairs("b", "1"), false},
		{pairs("a", "1"), pairs("A", "1"), false},
		{pairs("ab", "c"), pairs("a", "bc"), false},
		{pairs("a", "1"), pairs("a", "1", "b", "2"), false},
		{pairs("a", "1", "b", "2"), pairs("a", "1"), false},
		{pairs("a", "1", "b", "2"), pairs("b", "2", "a", "1"), false},
		{pairs("b", "2", "a", "1"), pairs("b", "2", "a", "1"), true},
		{pairs("a", "1", "a", "1"), pairs("a", "1"), false},
		{pairs("", "", "\xff", "\x00"), pairs("", "", "\xff", "\x00"), true},
		{pairs("\xff", ""), pairs("\ufffd", ""), false},
		{pairs("\xff", ""), pairs("\xfe", ""), false},
		{pairs("e\u0301", ""), pairs("é", ""), false},
		{row(20), row(20), true},
		{row(20), row(21), false},
	} {
		if Same(c.a, c.b) != c.want || Same(roomy(c.b), roomy(c.a)) != c.want {
			t.Errorf("Same %d: not %v", i, c.want)
		}
	}
	for i := range 20 {
		list := row(20)
		list[i].Value += " "
		if Same(list, row(20)) {
			t.Errorf("Same with another Value at %d", i)
		}
	}
}

func TestGet(t *testing.T) {
	list := pairs("b", "2", "a", "1", "a", "3", "", "none", "\xff", "bytes", "c", "", "c", "later")
	for name, want := range map[string]string{"a": "1", "b": "2", "": "none", "\xff": "bytes", "c": ""} {
		if v, ok := Get(list, name); v != want || !ok {
			t.Errorf("Get of %q: %q, %v", name, v, ok)
		}
	}
	for _, name := range []string{"A", "ab", "a ", "1", "2", "none", "\xfe", "\ufffd", "spare", "d"} {
		if v, ok := Get(roomy(list), name); v != "" || ok {
			t.Errorf("Get of %q: %q, %v", name, v, ok)
		}
	}
	for _, name := range []string{"", "a"} {
		if v, ok := Get(nil, name); v != "" || ok {
			t.Errorf("Get of none of %q: %q, %v", name, v, ok)
		}
	}
	if v, ok := Get(roomy(nil), "spare"); v != "" || ok {
		t.Errorf("Get of spare room: %q, %v", v, ok)
	}
	many := row(1000)
	for _, want := range many {
		if v, ok := Get(many, want.Name); v != want.Value || !ok {
			t.Errorf("Get of %q: %q, %v", want.Name, v, ok)
		}
	}
}

func TestWithin(t *testing.T) {
	for i, c := range []struct {
		some, list []api.Tag
		want       bool
	}{
		{nil, nil, true},
		{nil, pairs("a", "1"), true},
		{[]api.Tag{}, pairs("a", "1"), true},
		{pairs("a", "1"), nil, false},
		{pairs("", ""), nil, false},
		{pairs("", ""), pairs("", ""), true},
		{pairs("a", "1"), pairs("a", "1"), true},
		{pairs("a", "1"), pairs("a", "2"), false},
		{pairs("a", ""), pairs("a", "1"), false},
		{pairs("b", ""), pairs("a", "1"), false},
		{pairs("b", "1"), pairs("a", "1"), false},
		{pairs("1", "a"), pairs("a", "1"), false},
		{pairs("a", "1"), pairs("a", "1", "b", "2"), true},
		{pairs("b", "2"), pairs("a", "1", "b", "2"), true},
		{pairs("a", "1", "b", "2"), pairs("a", "1", "b", "2"), true},
		{pairs("a", "1", "b", "2"), pairs("a", "1"), false},
		{pairs("a", "1", "b", "2"), pairs("b", "2"), false},
		{pairs("a", "1", "b", "2"), pairs("a", "2", "b", "1"), false},
		{pairs("a", "1", "c", "3"), pairs("a", "1", "b", "2", "c", "3"), true},
		{pairs("a", "1", "c", "4"), pairs("a", "1", "b", "2", "c", "3"), false},
		{pairs("a", "0", "c", "3"), pairs("a", "1", "b", "2", "c", "3"), false},
		// Lists that are not sound.
		{pairs("b", "2", "a", "1"), pairs("a", "1", "b", "2"), true},
		{pairs("a", "1", "b", "2"), pairs("b", "2", "a", "1"), true},
		{pairs("a", "1", "a", "1"), pairs("a", "1"), true},
		{pairs("a", "2"), pairs("a", "1", "a", "2"), true},
		{pairs("a", "1", "a", "2"), pairs("a", "1", "a", "2"), true},
		{pairs("a", "1", "a", "2"), pairs("a", "1"), false},
		{pairs("\xff", "\x00"), pairs("a", "", "\xff", "\x00"), true},
		{pairs("\xff", ""), pairs("\ufffd", ""), false},
		{row(20), row(20), true},
		{row(20), row(21), true},
		{row(21), row(20), false},
	} {
		if Within(c.some, c.list) != c.want || Within(roomy(c.some), roomy(c.list)) != c.want {
			t.Errorf("Within %d: not %v", i, c.want)
		}
	}
	if Within(pairs("spare", "1"), roomy(nil)) {
		t.Error("Within spare room")
	}
}

// P8.2

func TestText(t *testing.T) {
	for i, c := range []struct {
		list []api.Tag
		want string
	}{
		{nil, ""},
		{[]api.Tag{}, ""},
		{pairs("a", ""), "a="},
		{pairs("a", "1"), "a=1"},
		{pairs("a", "1 x", "b", "2"), "a=1%20x&b=2"},
		{pairs("a", "", "b", "", "c", ""), "a=&b=&c="},
		{pairs("a", "=", "b", "&"), "a=%3D&b=%26"},
		{pairs("=", "&", "a=b&c", "d&e=f"), "%3D=%26&a%3Db%26c=d%26e%3Df"},
		{pairs("%", "%3D"), "%25=%253D"},
		{pairs("A-._/z", "0/9"), "A-._/z=0/9"},
		{pairs("+", "~"), "%2B=%7E"},
		{pairs("é", "日"), "%C3%A9=%E6%97%A5"},
	} {
		if s, e := Text(c.list); s != c.want || e != api.OK {
			t.Errorf("Text %d: %q, %d", i, s, e)
		}
		if back, e := Parse(c.want); !isAnswer(back, e, c.list, api.OK) {
			t.Errorf("Parse(%q): %q, %d", c.want, back, e)
		}
	}
	// The least and the greatest sound lists.
	full := row(8)
	for i := range full {
		full[i] = tag(strings.Repeat(" ", 63)+fmt.Sprint(i), strings.Repeat("&", 64))
	}
	if s, e := Text(full); s != written(full) || e != api.OK || len(s) != 8*(63*3+1+1+64*3)+7 {
		t.Errorf("Text of the greatest: %d bytes, %d", len(s), e)
	}
	checkAlone(t, full)
}

func TestTextOfWrongLists(t *testing.T) {
	for i, list := range [][]api.Tag{
		pairs("", ""), pairs("", "1"), pairs("b", "", "a", ""), pairs("a", "", "a", ""), pairs("a", "\n"), pairs("\x7f", ""), pairs("\xff", ""), pairs("a", "\xc3"),
		pairs("a", strings.Repeat("v", 65)), pairs(strings.Repeat("n", 65), ""), row(9), make([]api.Tag, 9), append(row(8), tag("n07", "")),
	} {
		if s, e := Text(list); s != "" || e != api.ErrForm {
			t.Errorf("Text %d: %q, %d", i, s, e)
		}
	}
}

func TestParse(t *testing.T) {
	for s, want := range map[string]api.Errno{
		"": api.OK, "a=": api.OK, "a=1": api.OK, "a=1&b=2": api.OK, "a=%20": api.OK, "a=&b=": api.OK, "%20=": api.OK, "%3D=%26": api.OK, "a=/": api.OK,
		"a": api.ErrText, "&": api.ErrText, "&&": api.ErrText, "a=1&": api.ErrText, "&a=1": api.ErrText, "a=1&&b=2": api.ErrText, "a=1&b": api.ErrText, "a&b=1": api.ErrText,
		"==": api.ErrText, "a==": api.ErrText, "a==b": api.ErrText, "a=b=c": api.ErrText, "=a=": api.ErrText, "a=b&c=d=e": api.ErrText, "a=1=&b=2": api.ErrText, "===": api.ErrText,
		"a=%": api.ErrText, "%=a": api.ErrText, "a=%2": api.ErrText, "a=%2f": api.ErrText, "a=%2F": api.ErrText, "a=%41": api.ErrText, "%61=": api.ErrText, "a=%c3": api.ErrText, "a=+": api.ErrText, "a =b": api.ErrText, "a= b": api.ErrText, " a=b": api.ErrText, "a=b ": api.ErrText,
		"a=é": api.ErrText, "é=a": api.ErrText, "a=\xff": api.ErrText, "a=\n": api.ErrText, "a=1\x00": api.ErrText, "a=1;b=2": api.ErrText, "a:1": api.ErrText, " ": api.ErrText, "a%3D1": api.ErrText, "a=1%26b=2": api.ErrText, "a=1%26b": api.OK,
		"=": api.ErrForm, "=1": api.ErrForm, "a=1&=2": api.ErrForm, "=1&a=2": api.ErrForm, "a=1&a=2": api.ErrForm, "a=1&a=1": api.ErrForm, "b=1&a=2": api.ErrForm, "=&=": api.ErrForm,
		"a=%00": api.ErrForm, "a=%1F": api.ErrForm, "a=%7F": api.ErrForm, "%0A=": api.ErrForm, "a=%FF": api.ErrForm, "%C3=": api.ErrForm, "%C3=%A9": api.ErrForm, "a=%C3%A9": api.OK, "a=%ED%A0%80": api.ErrForm,
		"Z=&a=": api.OK, "a=&Z=": api.ErrForm, "%7E=&%C3%A9=": api.OK, "%C3%A9=&%7E=": api.ErrForm,
		// By the bytes that are meant the one is below the other, by how they are written it is not.
		"-=&%3D=": api.OK, "%3D=&-=": api.ErrForm, "a=&a%20=": api.OK, "a%20=&a=": api.ErrForm, "a-=&a%2B=": api.ErrForm, "a%2B=&a-=": api.OK,
		// More than one thing is wrong.
		"b=1&a=2&c": api.ErrText, "=1&%=": api.ErrText, "a=%00&b=%": api.ErrText, "a=%&b=%00": api.ErrText, "a=1&a=2&": api.ErrText, "&=1": api.ErrText, "=%FF&=%FF&x==": api.ErrText,
	} {
		got, e := Parse(s)
		if e != want || e != api.OK && cap(got) != 0 {
			t.Errorf("Parse(%q): %q, %d", s, got, e)
		}
		if again, f := Text(got); e == api.OK && (again != s || f != api.OK) {
			t.Errorf("Parse(%q) as text: %q, %d", s, again, f)
		}
		checkParse(t, s)
	}
	if got, e := Parse("a=1%3D2%263&b%25=%C3%A9"); !isAnswer(got, e, pairs("a", "1=2&3", "b%", "é"), api.OK) {
		t.Errorf("Parse: %q, %d", got, e)
	}
}

func TestParseByNumbers(t *testing.T) {
	for n := 1; n < 30; n++ {
		s := written(row(n))
		want := api.OK
		if n > 8 {
			want = api.ErrForm
		}
		if got, e := Parse(s); e != want || want == api.OK && !slices.Equal(got, row(n)) {
			t.Errorf("Parse of %d: %q, %d", n, got, e)
		}
		checkParse(t, s)
		// Behind too many tags a part that is none still counts first.
		for _, wrong := range []string{s + "&", s + "&x", s + "&z==", s + "&z=%", "&" + s, "%=&" + s} {
			if got, e := Parse(wrong); !isAnswer(got, e, nil, api.ErrText) {
				t.Errorf("Parse(%q): %q, %d", wrong, got, e)
			}
		}
	}
	for _, s := range []string{strings.Repeat("a=1&", 1<<16) + "a=1", "a=" + strings.Repeat("v", 1<<20), strings.Repeat("n", 1<<20) + "="} {
		if got, e := Parse(s); !isAnswer(got, e, nil, api.ErrForm) {
			t.Errorf("Parse of %d bytes: %d, %d", len(s), len(got), e)
		}
	}
	for _, s := range []string{strings.Repeat("a=1&", 1<<16), strings.Repeat("&", 1<<20), strings.Repeat("=", 1<<20), strings.Repeat("%", 1<<20), strings.Repeat("a=1&", 1<<16) + "%=1"} {
		if got, e := Parse(s); !isAnswer(got, e, nil, api.ErrText) {
			t.Errorf("Parse of %d bytes: %d, %d", len(s), len(got), e)
		}
	}
}

func TestParseOfShortTexts(t *testing.T) {
	for _, s := range words("a=&%b", 7) {
		checkParse(t, s)
	}
	for _, s := range words("=&%20", 6) {
		checkParse(t, s)
	}
	for _, text := range []string{"a=1%20x&b=2", "%3D=%26&a=%C3%A9", "a=&b="} {
		for i := range len(text) {
			checkParse(t, text[:i])
			checkParse(t, text[i:])
			for c := range 256 {
				checkParse(t, text[:i]+oneByte(c)+text[i+1:])
				checkParse(t, text[:i]+oneByte(c)+text[i:])
			}
		}
	}
}

// Each text that is tags is the one text of these.
func TestParseAndText(t *testing.T) {
	draw := rand.New(rand.NewSource(82))
	signs := []string{"a", "b", "=", "&", "%", " ", "é", "日", "/", "~", "A", "0"}
	for range 20000 {
		list := make([]api.Tag, draw.Intn(9))
		for i := range list {
			for range draw.Intn(4) {
				list[i].Name += signs[draw.Intn(len(signs))]
				list[i].Value += signs[draw.Intn(len(signs))]
			}
		}
		made, e := Make(list...)
		if e != api.OK {
			continue
		}
		s, f := Text(made)
		back, g := Parse(s)
		if f != api.OK || g != api.OK || !slices.Equal(back, made) || s != written(made) {
			t.Errorf("%q as text and back: %q, %d, %q, %d", made, s, f, back, g)
		}
	}
}

// P8.3

func TestMerge(t *testing.T) {
	for i, c := range []struct {
		a, b, want []api.Tag
	}{
		{nil, nil, nil},
		{[]api.Tag{}, nil, nil},
		{pairs("a", "1"), nil, pairs("a", "1")},
		{nil, pairs("a", "1"), pairs("a", "1")},
		{pairs("a", "1"), pairs("a", "2"), pairs("a", "2")},
		{pairs("a", "1"), pairs("a", ""), pairs("a", "")},
		{pairs("a", ""), pairs("a", "1"), pairs("a", "1")},
		{pairs("a", "1"), pairs("b", "2"), pairs("a", "1", "b", "2")},
		{pairs("b", "1"), pairs("a", "2"), pairs("a", "2", "b", "1")},
		{pairs("a", "1", "c", "3"), pairs("b", "2"), pairs("a", "1", "b", "2", "c", "3")},
		{pairs("b", "2"), pairs("a", "1", "c", "3"), pairs("a", "1", "b", "2", "c", "3")},
		{pairs("a", "1", "b", "2"), pairs("b", "3", "c", ""), pairs("a", "1", "b", "3", "c", "")},
		{pairs("b", "3", "c", ""), pairs("a", "1", "b", "2"), pairs("a", "1", "b", "2", "c", "")},
		{pairs("a", "1", "b", "2", "c", "3"), pairs("a", "4", "c", "5"), pairs("a", "4", "b", "2", "c", "5")},
		{pairs("A", "1"), pairs("a", "2"), pairs("A", "1", "a", "2")},
		{pairs("a", "1"), pairs("A", "2"), pairs("A", "2", "a", "1")},
		{pairs("é", "1"), pairs("z", "2"), pairs("z", "2", "é", "1")},
	} {
		if got, e := Merge(c.a, c.b); !isAnswer(got, e, c.want, api.OK) || !Sound(got) {
			t.Errorf("Merge %d: %q, %d", i, got, e)
		}
		if got, e := Merge(roomy(c.a), roomy(c.b)); !isAnswer(got, e, c.want, api.OK) {
			t.Errorf("Merge %d of lists with room: %q, %d", i, got, e)
		}
	}
}

func TestMergeByNumbers(t *testing.T) {
	all := row(16)
	for most := range 9 {
		for from := range 9 {
			for n := range 9 {
				// Those of a that b has not are ahead of it, or behind it.
				a, b := all[:most], slices.Clone(all[from:from+n])
				left := min(most, from) + max(0, most-from-n)
				for i := range b {
					b[i].Value = "b"
				}
				got, e := Merge(a, b)
				if left+n > 8 && !isAnswer(got, e, nil, api.ErrFull) {
					t.Errorf("Merge of %d, and %d from %d: %q, %d", most, n, from, got, e)
				}
				if left+n <= 8 && (e != api.OK || len(got) != left+n || !Sound(got) || !Within(b, got)) {
					t.Errorf("Merge of %d, and %d from %d: %q, %d", most, n, from, got, e)
				}
				checkMerge(t, a, b)
				checkMerge(t, b, a)
			}
		}
	}
	// Eight and eight with the same Names are eight.
	other := row(8)
	for i := range other {
		other[i].Value = "over"
	}
	if got, e := Merge(row(8), other); !isAnswer(got, e, other, api.OK) {
		t.Errorf("Merge of full lists: %q, %d", got, e)
	}
	other[7].Name = "other"
	if got, e := Merge(row(8), inOrder(other)); !isAnswer(got, e, nil, api.ErrFull) {
		t.Errorf("Merge of full lists with nine Names: %q, %d", got, e)
	}
	if got, e := Merge(row(7), pairs("a", "")); e != api.OK || len(got) != 8 || got[0].Name != "a" {
		t.Errorf("Merge of seven and one: %q, %d", got, e)
	}
	if got, e := Merge(row(8), pairs("a", "")); !isAnswer(got, e, nil, api.ErrFull) {
		t.Errorf("Merge of eight and one: %q, %d", got, e)
	}
}

func TestMergeOfWrongLists(t *testing.T) {
	for i, wrong := range [][]api.Tag{
		pairs("", ""), pairs("b", "", "a", ""), pairs("a", "", "a", ""), pairs("a", "1", "a", "2"), pairs("a", "\n"), pairs("\xff", ""), pairs("a", strings.Repeat("v", 65)), pairs(strings.Repeat("n", 65), ""), row(9), row(100), make([]api.Tag, 9),
	} {
		for _, good := range [][]api.Tag{nil, pairs("a", ""), row(1), row(8), wrong} {
			if got, e := Merge(good, wrong); !isAnswer(got, e, nil, api.ErrForm) {
				t.Errorf("Merge with %d: %q, %d", i, got, e)
			}
			if got, e := Merge(wrong, good); !isAnswer(got, e, nil, api.ErrForm) {
				t.Errorf("Merge of %d: %q, %d", i, got, e)
			}
		}
	}
}

func TestMergeOfShortLists(t *testing.T) {
	all := lists(pairs("a", "1", "a", "2", "b", "3", "c", ""), 3)
	for _, a := range all {
		for _, b := range all {
			checkMerge(t, a, b)
		}
	}
}

// R4: what is handed in stays, and what is answered is new.

func TestMemory(t *testing.T) {
	calls := map[string]func(a, b []api.Tag) []api.Tag{
		"Sound":      func(a, b []api.Tag) []api.Tag { Sound(a); return nil },
		"Make":       func(a, b []api.Tag) []api.Tag { list, _ := Make(a...); return list },
		"Text":       func(a, b []api.Tag) []api.Tag { Text(a); return nil },
		"Parse":      func(a, b []api.Tag) []api.Tag { list, _ := Parse(written(a)); return list },
		"Get":        func(a, b []api.Tag) []api.Tag { Get(a, "b"); return nil },
		"Merge":      func(a, b []api.Tag) []api.Tag { list, _ := Merge(a, b); return list },
		"Merge back": func(a, b []api.Tag) []api.Tag { list, _ := Merge(b, a); return list },
		"Within":     func(a, b []api.Tag) []api.Tag { Within(a, b); return nil },
		"Same":       func(a, b []api.Tag) []api.Tag { Same(a, b); return nil },
	}
	args := [][]api.Tag{nil, {}, pairs("a", "1"), pairs("a", "2", "c", "3"), pairs("c", "", "a", ""), pairs("b", "", "a", "", "a", "2"), pairs("", ""), row(4), row(8), row(9)}
	for name, call := range calls {
		for i, a := range args {
			for j, b := range args {
				first, second := roomy(a), roomy(b)
				asked, other := slices.Clone(whole(first)), slices.Clone(whole(second))
				got := call(first, second)
				want, again := slices.Clone(got), call(first, second)
				// Who has an answer may do with it what he likes.
				for k := range whole(got) {
					whole(got)[k] = tag("mine", "mine")
				}
				if !slices.Equal(again, want) || !slices.Equal(call(first, second), want) {
					t.Errorf("%s of lists %d and %d: answers share memory", name, i, j)
				}
				if !slices.Equal(whole(first), asked) || !slices.Equal(whole(second), other) {
					t.Errorf("%s of lists %d and %d: what was handed in is another", name, i, j)
				}
			}
		}
	}
}

// One list may be handed in as both.
func TestOneListTwice(t *testing.T) {
	list := roomy(row(5))
	if got, e := Merge(list, list); !isAnswer(got, e, row(5), api.OK) {
		t.Errorf("Merge with itself: %q, %d", got, e)
	}
	if got, e := Merge(list[:3], list[2:]); !isAnswer(got, e, row(5), api.OK) {
		t.Errorf("Merge of pieces of one list: %q, %d", got, e)
	}
	if !Same(list, list) || !Within(list, list) || !Within(list[1:3], list) {
		t.Error("Same or Within of one list twice")
	}
}
