package label

import (
	"fmt"
	"math/rand"
	"net/url"
	"regexp"
	"strings"
	"testing"
	"unicode/utf8"

	"chartulary/api"
)

// words: all texts of the letters, of at most so many bytes.
func words(letters string, most int) []string {
	list := []string{""}
	from := 0
	for range most {
		to := len(list)
		for _, s := range list[from:to] {
			for i := range len(letters) {
				list = append(list, s+letters[i:i+1])
			}
		}
		from = to
	}
	return list
}

// turned: the text with each of its bytes in turn replaced by every byte.
func turned(text string, try func(s string)) {
	for i := range len(text) {
		for c := range 256 {
			b := []byte(text)
			b[i] = byte(c)
			try(string(b))
		}
	}
}

func oneByte(c int) string { return string([]byte{byte(c)}) }

// P6.1

var (
	nameForm    = regexp.MustCompile(`^[a-z0-9]+((-+|\.)[a-z0-9]+)*$`)
	addressForm = regexp.MustCompile(`^[0-9]{1,3}\.[0-9]{1,3}\.[0-9]{1,3}\.[0-9]{1,3}$`)
)

func checkBucket(t *testing.T, s string) {
	t.Helper()
	want := len(s) >= 3 && len(s) <= 63 && nameForm.MatchString(s) && !addressForm.MatchString(s)
	if Bucket(s) != want {
		t.Errorf("Bucket(%q): %v", s, !want)
	}
}

func TestBucket(t *testing.T) {
	for s, want := range map[string]bool{
		"": false, "a": false, "ab": false, "a1": false, "abc": true, "000": true, "azz": true, "09z": true,
		"a-b": true, "a--b": true, "a---b": true, "a.b": true, "a..b": false, "a.-b": false, "a-.b": false, "a-.-b": false, "a--.b": false, "a.--b": false,
		"-ab": false, ".ab": false, "ab-": false, "ab.": false, "--a": false, "a--": false, "---": false, "...": false, "-.-": false, "-a-": false,
		"a-b.c--d.e": true, "a.b-c": true, "1-2": true, "1.2": true,
		"Abc": false, "aBc": false, "abC": false, "ABC": false, "a_b": false, "a/b": false, "a b": false, "abc ": false, " abc": false, "abc\n": false, "a\x00b": false, "aé": false, "éé": false, "a\xffb": false, "ａｂｃ": false, "a+b": false, "a,b": false, "a:b": false, "a`b": false, "a{b": false,
	} {
		if Bucket(s) != want {
			t.Errorf("Bucket(%q): %v", s, !want)
		}
	}
}

func TestBucketOfAddresses(t *testing.T) {
	for s, want := range map[string]bool{
		"1.2.3.4": false, "0.0.0.0": false, "127.0.0.1": false, "255.255.255.255": false, "256.0.0.1": false, "999.999.999.999": false, "001.02.003.04": false, "000.000.000.000": false,
		"1.2.3": true, "1.2.3.4.5": true, "1.2.3.4444": true, "1111.2.3.4": true, "1.2222.3.4": true, "1.2.3333.4": true, "1234": true, "1.2.3.0004": true,
		"1.2.3.a": true, "a.2.3.4": true, "1.2.3.4a": true, "1.2.3-4": true, "1-2.3.4": true, "1-2-3-4": true, "1.2.3.4-5": true, "1.2.3.4--5": true, "1.b.3.4": true,
		"1.2.3.4.": false, ".1.2.3.4": false, "1..2.3": false, "1.2..3.4": false, "1.2.3.": false, "1.2.3.-4": false,
	} {
		if Bucket(s) != want {
			t.Errorf("Bucket(%q): %v", s, !want)
		}
	}
	for _, s := range words("1.", 15) {
		checkBucket(t, s)
	}
	for _, s := range words(".-0z", 8) {
		checkBucket(t, s)
	}
}

func TestBucketByLengths(t *testing.T) {
	for n := range 200 {
		want := n >= 3 && n <= 63
		for _, c := range []string{"a", "z", "0", "9"} {
			if Bucket(strings.Repeat(c, n)) != want {
				t.Errorf("Bucket of %d times %q: %v", n, c, !want)
			}
		}
		if n >= 2 && Bucket("a"+strings.Repeat("-", n-2)+"a") != want {
			t.Errorf("Bucket of %d bytes, - within: %v", n, !want)
		}
	}
	for _, s := range []string{strings.Repeat("a.", 31) + "a", strings.Repeat("1.", 31) + "1"} {
		if !Bucket(s) || Bucket(s+"a") {
			t.Errorf("Bucket(%q) or with one more", s)
		}
	}
	if Bucket(strings.Repeat("a", 1<<20)) || Bucket(strings.Repeat(".", 1<<20)) {
		t.Error("Bucket of a long text")
	}
}

func TestBucketByBytes(t *testing.T) {
	for _, s := range []string{"abc", "a-b", "a.b", "a--b", "a-b.c", "1.2.3.4", "12.34.56.78", strings.Repeat("x", 63), "a" + strings.Repeat("-", 61) + "a"} {
		turned(s, func(s string) { checkBucket(t, s) })
	}
}

func TestKey(t *testing.T) {
	for s, want := range map[string]bool{
		"": false, "a": true, " ": true, "~": true, "/": true, "//": true, "..": true, "%": true, "a b/é": true, "A-Z": true, "\\": true,
		"\x1f": false, "\x7f": false, "\x00": false, "a\n": false, "\ta": false, "a\rb": false, "a\x7fb": false, "a\x1fb": false, "a\x00": false,
		"\u0080": true, "\u009f": true, "\u00a0": true, "\u00ff": true, "\u0100": true, "\u010a": true, "\u017f": true, "\u2028": true, "\ufeff": true, "\ufffd": true, "\uffff": true, "\U00010000": true, "\U0010ffff": true,
		"\ud7ff": true, "\ue000": true, "é": true, "e\u0301": true, "日本": true,
		"\x80": false, "\xbf": false, "\xff": false, "\xfe": false, "a\xffb": false, "\xc3": false, "\xc3a": false, "a\xc3": false, "\xa9\xc3": false, "\xc3\xa9\xa9": false,
		"\xc0\x80": false, "\xc1\xbf": false, "\xc0\xaf": false, "\xe0\x80\x80": false, "\xe0\x9f\xbf": false, "\xf0\x80\x80\x80": false, "\xf0\x8f\xbf\xbf": false,
		"\xed\xa0\x80": false, "\xed\xbf\xbf": false, "\xed\xa0\x80\xed\xb0\x80": false,
		"\xf4\x90\x80\x80": false, "\xf5\x80\x80\x80": false, "\xf8\x88\x80\x80\x80": false, "\xe2\x82": false, "\xf0\x9f\x98": false,
	} {
		if Key(s) != want {
			t.Errorf("Key(%q): %v", s, !want)
		}
	}
}

func TestKeyByLengths(t *testing.T) {
	for n := range 500 {
		if want := n >= 1 && n <= 200; Key(strings.Repeat("k", n)) != want {
			t.Errorf("Key of %d bytes: %v", n, !want)
		}
	}
	// Bytes are counted, not signs.
	for _, sign := range []string{"é", "日", "\U0001f600"} {
		for n := 1; n < 300; n++ {
			s := strings.Repeat(sign, n)
			if want := len(s) <= 200; Key(s) != want {
				t.Errorf("Key of %d times %q: %v", n, sign, !want)
			}
		}
	}
	k := strings.Repeat("k", 198)
	for s, want := range map[string]bool{k + "é": true, k + "日": false, k + "\xe6\x97": false, k + "k\xc3": false, k + "k\n": false, "\n" + k + "k": false, "\x7f" + k: false} {
		if Key(s) != want {
			t.Errorf("Key(%q): %v", s, !want)
		}
	}
	if Key(strings.Repeat("k", 1<<20)) || Key(strings.Repeat("\xff", 1<<20)) {
		t.Error("Key of a long text")
	}
}

func TestKeyOfEverySign(t *testing.T) {
	for r := rune(0); r <= utf8.MaxRune; r++ {
		// The library writes another sign in place of these.
		if r >= 0xD800 && r <= 0xDFFF {
			continue
		}
		s := string(r)
		if want := r >= 32 && r != 127; Key(s) != want || Key("k"+s) != want || Key(s+"k") != want {
			t.Fatalf("Key of sign %d: not %v", r, want)
		}
	}
}

func TestKeyByBytes(t *testing.T) {
	for c := range 256 {
		want := c >= 32 && c < 127
		for _, s := range []string{oneByte(c), "ab" + oneByte(c), oneByte(c) + "ab", "a" + oneByte(c) + "b"} {
			if Key(s) != want {
				t.Errorf("Key(%q): %v", s, !want)
			}
		}
	}
	turned("a/é/日/\U0001f600", func(s string) {
		want := true
		// Where bytes are no UTF-8, their signs written again are others.
		if string([]rune(s)) != s {
			want = false
		}
		for _, r := range s {
			want = want && r >= 32 && r != 127
		}
		if Key(s) != want {
			t.Errorf("Key(%q): %v", s, !want)
		}
	})
}

// P6.2

const plain = "abcdefghijklmnopqrstuvwxyzABCDEFGHIJKLMNOPQRSTUVWXYZ0123456789-._/"

func escaped(s string) string {
	out := ""
	for i := range len(s) {
		if strings.IndexByte(plain, s[i]) >= 0 {
			out += s[i : i+1]
		} else {
			out += fmt.Sprintf("%%%02X", s[i])
		}
	}
	return out
}

func checkEscape(t *testing.T, s string) {
	t.Helper()
	got := Escape(s)
	if got != escaped(s) {
		t.Errorf("Escape(%q): %q", s, got)
	}
	if back, e := Unescape(got); back != s || e != api.OK {
		t.Errorf("Unescape(%q): %q, %d", got, back, e)
	}
}

// checkUnescape holds an answer against the library, which takes more texts than are ever written.
func checkUnescape(t *testing.T, s string) {
	t.Helper()
	want, err := url.PathUnescape(s)
	e := api.OK
	if err != nil || escaped(want) != s {
		want, e = "", api.ErrText
	}
	if got, is := Unescape(s); got != want || is != e {
		t.Errorf("Unescape(%q): %q, %d, not %q, %d", s, got, is, want, e)
	}
}

func TestEscape(t *testing.T) {
	for s, want := range map[string]string{
		"": "", "a": "a", plain: plain, "%": "%25", "%%": "%25%25", "%41": "%2541", " ": "%20", "+": "%2B", "~": "%7E", "\\": "%5C", "=": "%3D", "&": "%26",
		"\x00": "%00", "\x0f": "%0F", "\xf0": "%F0", "\xff": "%FF", "\x7f": "%7F", "\n": "%0A", "@": "%40", "[": "%5B", "`": "%60", "{": "%7B", ",": "%2C", ":": "%3A", "^": "%5E",
		"é": "%C3%A9", "a/b c%é=&": "a/b%20c%25%C3%A9%3D%26", "日": "%E6%97%A5", "../_-x": "../_-x", "a\x00": "a%00",
	} {
		if got := Escape(s); got != want {
			t.Errorf("Escape(%q): %q", s, got)
		}
		if got, e := Unescape(want); got != s || e != api.OK {
			t.Errorf("Unescape(%q): %q, %d", want, got, e)
		}
	}
}

func TestEscapeAndBack(t *testing.T) {
	for c := range 1 << 16 {
		checkEscape(t, string([]byte{byte(c >> 8), byte(c)}))
	}
	all := ""
	for c := range 256 {
		checkEscape(t, oneByte(c))
		all += oneByte(c)
	}
	checkEscape(t, all)
	r := rand.New(rand.NewSource(1))
	for n := range 300 {
		b := make([]byte, n)
		r.Read(b)
		checkEscape(t, string(b))
	}
	for _, c := range []string{"a", "%", "\xff"} {
		long := strings.Repeat(c, 1<<16+1)
		if s, e := Unescape(Escape(long)); s != long || e != api.OK {
			t.Errorf("%d times %q, and back: %d bytes, %d", len(long), c, len(s), e)
		}
	}
}

func TestUnescapeOfWrongTexts(t *testing.T) {
	for _, s := range []string{
		"%", "%2", "%C", "a%", "a%2", "%20%", "%20%2", "%%", "%%20", "%2%20", "%%%", "%2 0", "%2\x00", "%\x00\x00",
		"%c3", "%C3%a9", "%aF", "%Fa", "%fF", "%2g", "%G0", "%g0", "%-1", "%+1", "% 1", "%1 ", "%0x", "%0X", "%2\xff", "%é", "%/0", "%:0", "%@0", "%0@", "%0/", "%0:",
		"%41", "%5A", "%61", "%7A", "%30", "%39", "%2D", "%2E", "%5F", "%2F", "a%2Fb", "%20%41", "%41%20", "%C3%A9%61",
		"a b", " ", "+", "~", "=", "&", "é", "a\n", "\x00", "\xff", "a\x7f", "@", "[", "`", "{", ",", ":", "^", "\\", "*", "?", "a%20b c",
		strings.Repeat("a", 1<<16) + "%", strings.Repeat("%FF", 1<<16) + "%4",
	} {
		if got, e := Unescape(s); got != "" || e != api.ErrText {
			t.Errorf("Unescape(%q): %q, %d", s, got, e)
		}
	}
}

func TestUnescapeOfMany(t *testing.T) {
	checkUnescape(t, "")
	for c := range 1 << 16 {
		pair := string([]byte{byte(c >> 8), byte(c)})
		checkUnescape(t, pair)
		checkUnescape(t, "%"+pair)
		checkUnescape(t, "z%"+pair+"%25")
	}
	for _, s := range words("%20Ac", 6) {
		checkUnescape(t, s)
	}
	for _, s := range []string{"a/b%20c%25%C3%A9%3D%26", "%00%FF", "A-._/z"} {
		turned(s, func(s string) { checkUnescape(t, s) })
		for i := range len(s) {
			checkUnescape(t, s[:i])
			checkUnescape(t, s[i:])
		}
	}
}

// P6.3

func TestNext(t *testing.T) {
	for s, want := range map[string]string{
		"a": "b", "az": "a{", "ab": "ac", "a\xff": "b", "a\xff\xff": "b", "a\xffb": "a\xffc", "a\xffb\xff": "a\xffc", "\x00": "\x01", "\x00\x00": "\x00\x01", "\x00\xff": "\x01",
		"\xfe": "\xff", "\xfe\xff": "\xff", "\xff\xfe": "\xff\xff", "\xff\x00": "\xff\x01", "\xff\xff\x00\xff": "\xff\xff\x01", "\x7f": "\x80", "a\x7f": "a\x80", "é": "\xc3\xaa", "a/": "a0", "\xef\xbf\xbf": "\xef\xbf\xc0",
		strings.Repeat("\xff", 1<<16) + "a" + strings.Repeat("\xff", 1<<16): strings.Repeat("\xff", 1<<16) + "b",
	} {
		if n, ok := Next(s); n != want || !ok {
			t.Errorf("Next(%q): %q, %v", s, n, ok)
		}
	}
	for _, s := range []string{"", "\xff", "\xff\xff", "\xff\xff\xff", strings.Repeat("\xff", 1<<20)} {
		if n, ok := Next(s); n != "" || ok {
			t.Errorf("Next of %d bytes: %q, %v", len(s), n, ok)
		}
	}
}

func TestNextOfEveryByte(t *testing.T) {
	for c := range 255 {
		for _, ahead := range []string{"", "a", "\xff", "\x00\xff"} {
			for _, behind := range []string{"", "\xff", "\xff\xff\xff"} {
				s := ahead + oneByte(c) + behind
				if n, ok := Next(s); n != ahead+oneByte(c+1) || !ok {
					t.Errorf("Next(%q): %q, %v", s, n, ok)
				}
			}
		}
	}
}

// A text is below Next just if it is not above all that begin with the other one.
func TestNextIsLeast(t *testing.T) {
	list := words("\x00\x01a\xfe\xff", 4)
	for _, s := range words("\x00\x01a\xfe\xff", 3) {
		n, ok := Next(s)
		if s == strings.Repeat("\xff", len(s)) {
			if n != "" || ok {
				t.Errorf("Next(%q): %q, %v", s, n, ok)
			}
			continue
		}
		// No text of the list is between this one and those of the same beginning that are greater still.
		greatest := s + strings.Repeat("\xff", 8)
		for _, u := range list {
			if (u < n) != (u <= greatest) || !ok {
				t.Fatalf("Next(%q): %q, %v, as for %q", s, n, ok, u)
			}
		}
	}
}

func TestGroup(t *testing.T) {
	for _, c := range []struct {
		key, prefix, mark, want string
		ok                      bool
	}{
		{"a/b/c", "", "/", "a/", true},
		{"a/b/c", "a", "/", "a/", true},
		{"a/b/c", "a/", "/", "a/b/", true},
		{"a/b/c", "a/b", "/", "a/b/", true},
		{"a/b/c", "a/b/", "/", "", false},
		{"a/b/c", "a/b/c", "/", "", false},
		{"a/b/c", "a/b/c/", "/", "", false},
		{"a/b/c/", "a/b/", "/", "a/b/c/", true},
		{"a/b", "x", "/", "", false},
		{"a/b", "b", "/", "", false},
		{"a/b", "/", "/", "", false},
		{"a/b", "A", "/", "", false},
		{"a/b", "", "", "", false},
		{"a/b", "a", "", "", false},
		{"a/b", "x", "", "", false},
		{"", "", "", "", false},
		{"", "", "/", "", false},
		{"", "a", "/", "", false},
		{"/", "", "/", "/", true},
		{"/", "/", "/", "", false},
		{"//", "/", "/", "//", true},
		{"//", "", "/", "/", true},
		{"abc", "", "/", "", false},
		{"abc", "", "b", "ab", true},
		{"abc", "", "bc", "abc", true},
		{"abc", "", "abc", "abc", true},
		{"abc", "", "abcd", "", false},
		{"abc", "a", "ab", "", false},
		{"abcabc", "a", "ab", "abcab", true},
		{"a::b::c", "", "::", "a::", true},
		{"a::b::c", "a:", "::", "a::b::", true},
		{"a:b::c", "", "::", "a:b::", true},
		{"aaaa", "a", "aa", "aaa", true},
		{"aaaa", "aa", "aa", "aaaa", true},
		{"aaaa", "aaa", "aa", "", false},
		{"é/é", "", "\xa9", "é", true},
		{"a\xff\x00b", "a", "\x00", "a\xff\x00", true},
		{"a\x00", "", "\x00", "a\x00", true},
	} {
		if g, ok := Group(c.key, c.prefix, c.mark); g != c.want || ok != c.ok {
			t.Errorf("Group(%q, %q, %q): %q, %v", c.key, c.prefix, c.mark, g, ok)
		}
	}
}

// shortest: the shortest beginning of a key that ends with a mark which is wholly behind the prefix.
func shortest(key, prefix, mark string) (string, bool) {
	if mark == "" || len(prefix) > len(key) || key[:len(prefix)] != prefix {
		return "", false
	}
	for end := len(prefix) + len(mark); end <= len(key); end++ {
		if key[end-len(mark):end] == mark {
			return key[:end], true
		}
	}
	return "", false
}

func TestGroupOfMany(t *testing.T) {
	beginnings, marks := words("a/", 4), words("a/", 3)
	for _, key := range words("a/", 7) {
		for _, prefix := range beginnings {
			for _, mark := range marks {
				want, there := shortest(key, prefix, mark)
				if g, ok := Group(key, prefix, mark); g != want || ok != there {
					t.Fatalf("Group(%q, %q, %q): %q, %v", key, prefix, mark, g, ok)
				}
			}
		}
	}
}

func TestGroupOfLongTexts(t *testing.T) {
	a := strings.Repeat("a", 1<<16)
	if g, ok := Group(a+"/b", a, "/"); g != a+"/" || !ok {
		t.Errorf("Group behind a long prefix: %d bytes, %v", len(g), ok)
	}
	if g, ok := Group(a, a, a); g != "" || ok {
		t.Errorf("Group with nothing behind: %d bytes, %v", len(g), ok)
	}
	if g, ok := Group(a, "", a+"a"); g != "" || ok {
		t.Errorf("Group of a mark above the key: %d bytes, %v", len(g), ok)
	}
}
