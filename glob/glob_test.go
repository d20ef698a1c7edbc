package glob

import (
	"math/rand"
	"strings"
	"testing"

	"chartulary/api"
)

// words: all texts of the letters, of at most so many bytes.
func words(letters string, most int) []string {
	list := []string{""}
	from := 0
	for range most {
		to := len(list)
		for _, s := range list[from:to] {
			for i := range len(letters) {
				list = append(list, s+letters[i:i+1])
			}
		}
		from = to
	}
	return list
}

func oneByte(c int) string { return string([]byte{byte(c)}) }

func allBytes() string {
	b := make([]byte, 256)
	for i := range b {
		b[i] = byte(i)
	}
	return string(b)
}

// soundBySlashes: the run of \ at the end tells; an odd one leaves a \ that has nothing behind it.
func soundBySlashes(p string) bool {
	run := len(p) - len(strings.TrimRight(p, `\`))
	return len(p) <= 200 && run%2 == 0
}

// matchByWords: the section Words read piece by piece, of a sound pattern.
func matchByWords(p, s string) bool {
	if p == "" {
		return s == ""
	}
	if p[0] == '*' {
		for n := 0; n <= len(s); n++ {
			if matchByWords(p[1:], s[n:]) {
				return true
			}
		}
		return false
	}
	if s == "" {
		return false
	}
	if p[0] == '?' {
		return matchByWords(p[1:], s[1:])
	}
	if p[0] == '\\' {
		p = p[1:]
	}
	return p[0] == s[0] && matchByWords(p[1:], s[1:])
}

// matchByRows: the same for patterns of any length, by which ends of the text are reached.
func matchByRows(p, s string) bool {
	reached := make([]bool, len(s)+1)
	reached[0] = true
	for p != "" {
		next := make([]bool, len(s)+1)
		kind := p[0]
		if kind == '\\' {
			p = p[1:]
		}
		for i := range next {
			switch {
			case kind == '*':
				next[i] = reached[i] || i > 0 && next[i-1]
			case i == 0:
			case kind == '?':
				next[i] = reached[i-1]
			default:
				next[i] = reached[i-1] && s[i-1] == p[0]
			}
		}
		reached = next
		p = p[1:]
	}
	return reached[len(s)]
}

func checkMatch(t *testing.T, p, s string, want bool) {
	t.Helper()
	if ok, e := Match(p, s); ok != want || e != api.OK {
		t.Errorf("Match(%q, %q): %v, %d", p, s, ok, e)
	}
}

func checkUnsound(t *testing.T, p string) {
	t.Helper()
	if Sound(p) {
		t.Errorf("Sound(%q)", p)
	}
	for _, s := range []string{"", "a", p, `\`, "*"} {
		if ok, e := Match(p, s); ok || e != api.ErrForm {
			t.Errorf("Match(%q, %q): %v, %d", p, s, ok, e)
		}
	}
	if n, e := Least(p); n != 0 || e != api.ErrForm {
		t.Errorf("Least(%q): %d, %d", p, n, e)
	}
	if s, ok := Plain(p); s != "" || ok {
		t.Errorf("Plain(%q): %q, %v", p, s, ok)
	}
}

// P7.1: Sound

func TestSound(t *testing.T) {
	for p, want := range map[string]bool{
		"": true, "a": true, "*": true, "?": true, `\*`: true, `\?`: true, `\\`: true, `\a`: true, "\\\x00": true, "\\\xff": true, `\é`: true, "\x00": true, "\xff\xfe": true,
		`\`: false, `a\`: false, `*\`: false, `?\`: false, `\\\`: false, `\a\`: false, `a\\`: true, `a\\\`: false, `\\\\`: true, `\*\`: false, `\a\\`: true,
	} {
		if Sound(p) != want {
			t.Errorf("Sound(%q): %v", p, !want)
		}
	}
}

func TestSoundOfShortPatterns(t *testing.T) {
	for _, p := range words(`a*?\`, 6) {
		if !soundBySlashes(p) {
			checkUnsound(t, p)
		} else if !Sound(p) {
			t.Errorf("Sound(%q): false", p)
		}
	}
}

func TestSoundOfEveryByte(t *testing.T) {
	for c := range 256 {
		for _, p := range []string{oneByte(c), `\` + oneByte(c), "a" + oneByte(c), oneByte(c) + "a"} {
			if Sound(p) != soundBySlashes(p) {
				t.Errorf("Sound(%q): %v", p, Sound(p))
			}
		}
	}
}

func TestSoundAtLengths(t *testing.T) {
	for _, c := range []string{"a", "*", "?", `\`, "\xff", "\x00"} {
		for n := 195; n <= 205; n++ {
			p := strings.Repeat(c, n)
			if want := soundBySlashes(p); Sound(p) != want {
				t.Errorf("Sound(%d of %q): %v", n, c, !want)
			}
		}
	}
	// Bytes are counted, not what they match.
	for _, p := range []string{strings.Repeat(`\a`, 100) + "a", strings.Repeat("é", 101), strings.Repeat("*", 100000), strings.Repeat("a", 200) + `\`, strings.Repeat("a", 199) + `\`, strings.Repeat("a", 199) + `\a`} {
		checkUnsound(t, p)
	}
	for _, p := range []string{strings.Repeat(`\a`, 100), strings.Repeat("é", 100), strings.Repeat("a", 198) + `\\`} {
		if !Sound(p) {
			t.Errorf("Sound(%q): false", p)
		}
	}
}

// P7.1: Match

func TestMatch(t *testing.T) {
	for _, c := range []struct {
		p, s string
		want bool
	}{
		{"", "", true}, {"", "a", false}, {"a", "", false}, {"a", "a", true}, {"a", "b", false}, {"a", "aa", false}, {"aa", "a", false}, {"abc", "abc", true}, {"abc", "abd", false}, {"abc", "xbc", false}, {"A", "a", false},
		{"*", "", true}, {"*", "a", true}, {"*", "abc", true}, {"*", "*", true}, {"*", "\x00\n\xff", true}, {"**", "", true}, {"***", "abc", true},
		{"*a", "a", true}, {"*a", "ba", true}, {"*a", "aaa", true}, {"*a", "ab", false}, {"*a", "", false}, {"*a", "abab", false},
		{"a*", "a", true}, {"a*", "ab", true}, {"a*", "ba", false}, {"a*", "", false},
		{"a*b", "ab", true}, {"a*b", "acb", true}, {"a*b", "abcb", true}, {"a*b", "abc", false}, {"a*b", "cab", false}, {"a*a", "a", false}, {"a*a", "aa", true},
		{"a**b", "ab", true}, {"a**b", "axxb", true}, {"a***b", "axxc", false}, {"**a**", "a", true}, {"**a**", "b", false},
		{"*ab", "aab", true}, {"*aab", "aaab", true}, {"*abac", "ababac", true}, {"*abac*", "abaabacx", true}, {"*a*b*c", "abcabc", true}, {"*a*b*c", "cba", false}, {"a*ab*b", "aabb", true}, {"a*ab*b", "aab", false}, {"a*ab*b", "aaxabxb", true}, {"*a?c", "abbabc", true}, {"*a?c", "abcab", false},
		{"?", "", false}, {"?", "a", true}, {"?", "ab", false}, {"?", "?", true}, {"?", "*", true}, {"?", `\`, true}, {"?", "\x00", true}, {"?", "\n", true}, {"?", "\xff", true}, {"??", "a", false}, {"??", "ab", true}, {"??", "é", true}, {"?", "é", false}, {"a?", "a", false}, {"a?", "ab", true}, {"ab?", "ab", false}, {"?a", "a", false},
		{"*?", "", false}, {"?*", "", false}, {"*?", "a", true}, {"?*", "a", true}, {"?*?", "a", false}, {"?*?", "ab", true}, {"*?*", "abc", true}, {"*??*", "a", false},
		{`\*`, "*", true}, {`\*`, "", false}, {`\*`, "a", false}, {`\*`, `\*`, false}, {`\*`, `\`, false}, {`\?`, "?", true}, {`\?`, "a", false}, {`\?`, `\?`, false}, {`\\`, `\`, true}, {`\\`, `\\`, false}, {`\\`, "", false}, {`\\\\`, `\\`, true}, {`\a`, "a", true}, {`\a`, `\a`, false}, {`\a`, `\`, false}, {"\\\x00", "\x00", true}, {"\\\xff", "\xff", true}, {`\n`, "n", true}, {`\n`, "\n", false},
		{`\\*`, `\`, true}, {`\\*`, `\abc`, true}, {`\\*`, "*", false}, {`\\\*`, `\*`, true}, {`\\\*`, `\a`, false}, {`a\*b`, "a*b", true}, {`a\*b`, "ab", false}, {`a\*b`, "axb", false}, {`*\*`, "aa*", true}, {`*\*`, "aaa", false}, {`\**`, "*abc", true}, {`\**`, "abc", false}, {`*\**`, "ab*cd", true}, {`*\?*`, "ab?cd", true}, {`*\?*`, "abcd", false},
		{"[a]", "a", false}, {"[a]", "[a]", true}, {"a-b", "a-b", true}, {"*/b", "a/a/b", true}, {".*", "a", false}, {"{a,b}", "a", false}, {"^a$", "a", false}, {"*", ".a/b", true}, {"?", "/", true},
	} {
		checkMatch(t, c.p, c.s, c.want)
	}
}

func TestMatchOfShortTexts(t *testing.T) {
	texts := words("ab", 7)
	for _, p := range words("ab*?", 5) {
		for _, s := range texts {
			checkMatch(t, p, s, matchByWords(p, s))
		}
	}
}

func TestMatchOfSignsAsTexts(t *testing.T) {
	texts := words(`a*?\`, 4)
	for _, p := range words(`a*?\`, 5) {
		if !soundBySlashes(p) {
			continue
		}
		for _, s := range texts {
			checkMatch(t, p, s, matchByWords(p, s))
		}
	}
}

func TestMatchOfEveryByte(t *testing.T) {
	for c := range 256 {
		for d := range 256 {
			p, s := oneByte(c), oneByte(d)
			checkMatch(t, `\`+p, s, c == d)
			checkMatch(t, "?", s, true)
			checkMatch(t, "*", s, true)
			if c != '\\' {
				checkMatch(t, p, s, c == d || c == '*' || c == '?')
				checkMatch(t, "x"+p+"*y", "x"+s+"y", c == d || c == '*' || c == '?')
			}
		}
	}
	checkMatch(t, "*", allBytes(), true)
	checkMatch(t, "\x00*\xff", allBytes(), true)
	checkMatch(t, "*\x00", allBytes(), false)
	checkMatch(t, strings.Repeat("?", 200), allBytes()[:200], true)
	checkMatch(t, strings.Repeat("?", 200), allBytes()[:199], false)
	checkMatch(t, strings.Repeat("?", 200), allBytes()[:201], false)
}

func TestMatchOfLongTexts(t *testing.T) {
	long := strings.Repeat("a", 1<<16)
	checkMatch(t, "*", long, true)
	checkMatch(t, "*b", long, false)
	checkMatch(t, "*b", long+"b", true)
	checkMatch(t, "b*", long, false)
	checkMatch(t, "a", long, false)
	// Gone through in every way these would not end.
	checkMatch(t, strings.Repeat("a*", 99)+"b", long, false)
	checkMatch(t, strings.Repeat("*a", 99)+"b", long, false)
	checkMatch(t, strings.Repeat("*", 200), long, true)
	checkMatch(t, "*"+strings.Repeat("a", 198)+"b", long+"b", true)
	checkMatch(t, "*"+strings.Repeat("a", 198)+"b", long+"c", false)
	checkMatch(t, strings.Repeat("a", 200), long[:200], true)
	checkMatch(t, strings.Repeat("a", 200), long[:201], false)
	checkMatch(t, strings.Repeat("a", 200), long[:199], false)
}

func TestMatchAtRandom(t *testing.T) {
	r := rand.New(rand.NewSource(7))
	draw := func(letters string, most int) string {
		b := make([]byte, r.Intn(most+1))
		for i := range b {
			b[i] = letters[r.Intn(len(letters))]
		}
		return string(b)
	}
	hits := 0
	for range 60000 {
		p, s := draw(`aab*??*\`, 24), draw(`aaab*\`, 40)
		if !soundBySlashes(p) {
			continue
		}
		want := matchByRows(p, s)
		if want {
			hits++
		}
		checkMatch(t, p, s, want)
	}
	if hits < 1000 {
		t.Errorf("only %d match", hits)
	}
}

// P7.1: Quote

func TestQuote(t *testing.T) {
	for s, want := range map[string]string{
		"": "", "a": "a", "*": `\*`, "?": `\?`, `\`: `\\`, "a*b?c\\d": `a\*b\?c\\d`, "**": `\*\*`, `\\`: `\\\\`, `\*`: `\\\*`, "é": "é", "\x00\xff": "\x00\xff", "[a]{b}": "[a]{b}",
	} {
		if got := Quote(s); got != want {
			t.Errorf("Quote(%q): %q", s, got)
		}
	}
	if got, want := Quote(allBytes()), strings.NewReplacer("*", `\*`, "?", `\?`, `\`, `\\`).Replace(allBytes()); got != want {
		t.Errorf("Quote: %q", got)
	}
}

func TestQuoteOfLongTexts(t *testing.T) {
	for _, n := range []int{99, 100, 101, 199, 200, 201, 1000, 1 << 16} {
		if got := Quote(strings.Repeat("*", n)); got != strings.Repeat(`\*`, n) {
			t.Errorf("Quote of %d: %d bytes", n, len(got))
		}
		if got := Quote(strings.Repeat("a", n)); got != strings.Repeat("a", n) {
			t.Errorf("Quote of %d: %d bytes", n, len(got))
		}
	}
}

func TestQuotedMatchesItselfAlone(t *testing.T) {
	texts := words(`a*?\`, 4)
	for _, s := range texts {
		p := Quote(s)
		if text, ok := Plain(p); text != s || !ok {
			t.Errorf("Plain(%q): %q, %v", p, text, ok)
		}
		for _, other := range texts {
			checkMatch(t, p, other, other == s)
		}
	}
}

// P7.1: Least

func TestLeast(t *testing.T) {
	for p, want := range map[string]int{
		"": 0, "a": 1, "*": 0, "**": 0, "?": 1, "???": 3, `\*`: 1, `\?`: 1, `\\`: 1, `\a`: 1, `\\\\`: 2, "a*b": 2, "*a*?*": 2, `\**`: 1, `\\*`: 1, "é": 2, "a*?\\*b": 4, "\x00\xff": 2,
		strings.Repeat("a", 200): 200, strings.Repeat("*", 200): 0, strings.Repeat("?", 200): 200, strings.Repeat(`\*`, 100): 100, strings.Repeat("*a", 100): 100,
	} {
		if n, e := Least(p); n != want || e != api.OK {
			t.Errorf("Least(%q): %d, %d", p, n, e)
		}
	}
}

// leastBySearch: the first length of which a text matches, texts from the shortest on.
func leastBySearch(p string, texts []string) int {
	for _, s := range texts {
		if matchByWords(p, s) {
			return len(s)
		}
	}
	return -1
}

func TestLeastBySearch(t *testing.T) {
	texts := words(`a*?\`, 5)
	for _, p := range words(`a*?\`, 5) {
		if !soundBySlashes(p) {
			continue
		}
		if n, e := Least(p); n != leastBySearch(p, texts) || e != api.OK {
			t.Errorf("Least(%q): %d, %d", p, n, e)
		}
	}
}

// P7.1: Plain

func TestPlain(t *testing.T) {
	for p, want := range map[string]string{
		"": "", "a": "a", "abc": "abc", `\*`: "*", `\?`: "?", `\\`: `\`, `\a`: "a", `\a\b`: "ab", `a\*b`: "a*b", `\\\*`: `\*`, `\\\\`: `\\`, "é": "é", "\x00\xff": "\x00\xff", "\\\xff": "\xff",
		strings.Repeat("a", 200): strings.Repeat("a", 200), strings.Repeat(`\?`, 100): strings.Repeat("?", 100),
	} {
		if s, ok := Plain(p); s != want || !ok {
			t.Errorf("Plain(%q): %q, %v", p, s, ok)
		}
	}
	for _, p := range []string{"*", "?", "**", "a*", "*a", "a?", "?a", "a*b", "a?b", `\**`, `\\*`, `\\?`, `\*?`, strings.Repeat("a", 199) + "*", strings.Repeat("a", 199) + "?"} {
		if s, ok := Plain(p); s != "" || ok {
			t.Errorf("Plain(%q): %q, %v", p, s, ok)
		}
	}
}

func TestPlainBySearch(t *testing.T) {
	texts := words(`a*?\`, 6)
	for _, p := range words(`a*?\`, 4) {
		if !soundBySlashes(p) {
			continue
		}
		only, found := "", 0
		for _, s := range texts {
			if matchByWords(p, s) {
				only = s
				found++
			}
		}
		if found != 1 {
			only = ""
		}
		if s, ok := Plain(p); s != only || ok != (found == 1) {
			t.Errorf("Plain(%q): %q, %v", p, s, ok)
		}
	}
}

// P1

func TestAnyArguments(t *testing.T) {
	r := rand.New(rand.NewSource(71))
	for range 20000 {
		b := make([]byte, r.Intn(230))
		r.Read(b)
		p := string(b)
		if !soundBySlashes(p) {
			checkUnsound(t, p)
			continue
		}
		n, e := Least(p)
		if e != api.OK || n > len(p) {
			t.Fatalf("Least(%q): %d, %d", p, n, e)
		}
		checkMatch(t, p, p, matchByRows(p, p))
		if s, ok := Plain(p); ok {
			checkMatch(t, p, s, true)
		}
	}
}
