package alpha

import (
	"bytes"
	"encoding/base32"
	"encoding/hex"
	"math"
	"math/big"
	"math/rand"
	"slices"
	"strings"
	"testing"

	"chartulary/api"
)

func noise(r *rand.Rand, n int) []byte {
	b := make([]byte, n)
	r.Read(b)
	return b
}

// texts are bytes of all lengths up to some rounds of letters: noise, noughts and ones.
func texts() [][]byte {
	r := rand.New(rand.NewSource(1))
	list := [][]byte{nil, {}}
	for n := range 70 {
		list = append(list, noise(r, n), make([]byte, n), bytes.Repeat([]byte{0xFF}, n))
	}
	for i := range 256 {
		list = append(list, []byte{byte(i)}, []byte{byte(i), byte(i), 0, byte(i), byte(255 - i)})
	}
	return append(list, noise(r, 1<<16+3))
}

// numbers are those at and beside each power of two, and some that a fixed seed gives.
func numbers() []uint64 {
	list := []uint64{0, math.MaxUint64}
	for i := range 64 {
		p := uint64(1) << i
		list = append(list, p-1, p, p+1, -p, ^p)
	}
	r := rand.New(rand.NewSource(2))
	for i := range 300 {
		list = append(list, r.Uint64()>>(i%64))
	}
	return list
}

// unlike: the text with each of its bytes in turn replaced by every sign that is none of the letters.
func unlike(text, letters string, try func(wrong string)) {
	for i := range len(text) {
		for c := range 256 {
			if strings.IndexByte(letters, byte(c)) >= 0 {
				continue
			}
			wrong := []byte(text)
			wrong[i] = byte(c)
			try(string(wrong))
		}
	}
}

// P4.1

func TestHex(t *testing.T) {
	for _, c := range []struct{ b, want string }{
		{"", ""},
		{"\x00", "00"},
		{"\x0f", "0f"},
		{"\xf0", "f0"},
		{"\x00\xff", "00ff"},
		{"\x01\x23\x45\x67\x89\xab\xcd\xef", "0123456789abcdef"},
		{"foobar", "666f6f626172"},
	} {
		if s := Hex([]byte(c.b)); s != c.want {
			t.Errorf("Hex(%x): %q", c.b, s)
		}
		if b, e := Unhex(c.want); string(b) != c.b || e != api.OK {
			t.Errorf("Unhex(%q): %x, %d", c.want, b, e)
		}
	}
	for _, b := range texts() {
		s := Hex(b)
		if s != hex.EncodeToString(b) {
			t.Fatalf("Hex(%x): %q", b, s)
		}
		if back, e := Unhex(s); !bytes.Equal(back, b) || e != api.OK {
			t.Fatalf("Unhex(%q): %x, %d", s, back, e)
		}
	}
}

func refuseHex(t *testing.T, s string) {
	t.Helper()
	if b, e := Unhex(s); len(b) != 0 || e != api.ErrText {
		t.Errorf("Unhex(%q): %x, %d", s, b, e)
	}
}

func TestUnhexOfWrongTexts(t *testing.T) {
	for _, s := range []string{
		"0", "f", "000", "0000000", strings.Repeat("0", 65537),
		"0g", "g0", "AB", "aB", "0A", "F0", " 00", "00 ", "0 0", "0x00", "00\n", "\x00\x00", "-1", "+1", "0\x80", "\xff\xff", "é", "00é",
		"００", "/0", ":0", "`0", "g", "000g", "00000000G0",
	} {
		refuseHex(t, s)
	}
	unlike("00ff19ae", "0123456789abcdef", func(wrong string) { refuseHex(t, wrong) })
}

func TestUnhexOfAllPairs(t *testing.T) {
	for i := range 1 << 16 {
		s := string([]byte{byte(i >> 8), byte(i)})
		want, err := hex.DecodeString(s)
		if err != nil || strings.ToLower(s) != s {
			refuseHex(t, s)
		} else if b, e := Unhex(s); !bytes.Equal(b, want) || e != api.OK {
			t.Errorf("Unhex(%q): %x, %d", s, b, e)
		}
	}
}

// P4.2

// standard is the library's own spelling with the same letters, if nothing fills a round up.
func standard() *base32.Encoding {
	return base32.NewEncoding("abcdefghijklmnopqrstuvwxyz234567").WithPadding(base32.NoPadding)
}

func TestBase(t *testing.T) {
	for _, c := range []struct{ b, want string }{
		{"", ""},
		{"f", "my"},
		{"fo", "mzxq"},
		{"foo", "mzxw6"},
		{"foob", "mzxw6yq"},
		{"fooba", "mzxw6ytb"},
		{"foobar", "mzxw6ytboi"},
		{"\x00", "aa"},
		{"\xff", "74"},
		{"\x00\xff", "ad7q"},
		{"\xff\xff\xff\xff\xff", "77777777"},
		{"\x00\x44\x32\x14\xc7\x42\x54\xb6\x35\xcf\x84\x65\x3a\x56\xd7\xc6\x75\xbe\x77\xdf", "abcdefghijklmnopqrstuvwxyz234567"},
	} {
		if s := Base([]byte(c.b)); s != c.want {
			t.Errorf("Base(%x): %q", c.b, s)
		}
		if b, e := Unbase(c.want); string(b) != c.b || e != api.OK {
			t.Errorf("Unbase(%q): %x, %d", c.want, b, e)
		}
	}
	for _, b := range texts() {
		s := Base(b)
		if s != standard().EncodeToString(b) {
			t.Fatalf("Base(%x): %q", b, s)
		}
		if back, e := Unbase(s); !bytes.Equal(back, b) || e != api.OK {
			t.Fatalf("Unbase(%q): %x, %d", s, back, e)
		}
	}
}

func refuseBase(t *testing.T, s string) {
	t.Helper()
	if b, e := Unbase(s); len(b) != 0 || e != api.ErrText {
		t.Errorf("Unbase(%q): %x, %d", s, b, e)
	}
}

func TestUnbaseOfWrongTexts(t *testing.T) {
	for _, s := range []string{
		"a", "m", "aaa", "mzx", "aaaaaa", "mzxw6y", "aaaaaaaaa",
		"MY", "mY", "m1", "m0", "m8", "m9", "my1", "my======", "m=", " my", "my ", "m y", "my\n", "\x00\x00", "m\x80", "\xff\xff", "é", "ｍｙ",
		"mz", "ab", "mzxr", "mzxx", "mzxw7", "ab7", "mzxw6yr", "mzxw6ytboj",
	} {
		refuseBase(t, s)
	}
	for _, s := range []string{"my", "mzxq", "mzxw6", "mzxw6yq", "mzxw6ytb", "mzxw6ytboi"} {
		unlike(s, "abcdefghijklmnopqrstuvwxyz234567", func(wrong string) { refuseBase(t, wrong) })
	}
}

// Lengths that no bytes have are refused whatever the letters are.
func TestUnbaseByLengths(t *testing.T) {
	for n := range 100 {
		s := strings.Repeat("a", n)
		switch n % 8 {
		case 1, 3, 6:
			refuseBase(t, s)
			refuseBase(t, strings.Repeat("7", n))
			refuseBase(t, strings.Repeat("q", n))
		default:
			if b, e := Unbase(s); !bytes.Equal(b, make([]byte, n*5/8)) || e != api.OK {
				t.Errorf("Unbase(%q): %x, %d", s, b, e)
			}
		}
	}
}

// Every last letter, behind every number of whole bytes: it is right only if Base writes it.
func TestUnbaseByLastLetters(t *testing.T) {
	letters := "abcdefghijklmnopqrstuvwxyz234567"
	r := rand.New(rand.NewSource(3))
	for n := 1; n < 21; n++ {
		s := Base(noise(r, n))
		spare := len(s)*5 - n*8
		for worth := range len(letters) {
			text := s[:len(s)-1] + letters[worth:worth+1]
			if worth%(1<<spare) != 0 {
				refuseBase(t, text)
			} else if b, e := Unbase(text); Base(b) != text || e != api.OK {
				t.Errorf("Unbase(%q): %x, %d", text, b, e)
			}
		}
	}
}

func TestUnbaseOfAllPairs(t *testing.T) {
	for i := range 1 << 16 {
		s := string([]byte{byte(i >> 8), byte(i)})
		want, err := standard().DecodeString(s)
		if err != nil || standard().EncodeToString(want) != s {
			refuseBase(t, s)
		} else if b, e := Unbase(s); !bytes.Equal(b, want) || e != api.OK {
			t.Errorf("Unbase(%q): %x, %d", s, b, e)
		}
	}
}

// P4.3

func TestNumber(t *testing.T) {
	for _, c := range []struct {
		n    uint64
		want string
	}{
		{0, "0000000000000"},
		{1, "0000000000001"},
		{9, "0000000000009"},
		{10, "000000000000a"},
		{31, "000000000000v"},
		{32, "0000000000010"},
		{33, "0000000000011"},
		{1<<60 - 1, "0vvvvvvvvvvvv"},
		{1 << 60, "1000000000000"},
		{math.MaxInt64, "7vvvvvvvvvvvv"},
		{1 << 63, "8000000000000"},
		{15 << 60, "f000000000000"},
		{math.MaxUint64 - 1, "fvvvvvvvvvvvu"},
		{math.MaxUint64, "fvvvvvvvvvvvv"},
	} {
		if s := Number(c.n); s != c.want {
			t.Errorf("Number(%d): %q", c.n, s)
		}
		if n, e := Unnumber(c.want); n != c.n || e != api.OK {
			t.Errorf("Unnumber(%q): %d, %d", c.want, n, e)
		}
	}
	for _, n := range numbers() {
		digits := new(big.Int).SetUint64(n).Text(32)
		s := Number(n)
		if s != strings.Repeat("0", 13-len(digits))+digits {
			t.Fatalf("Number(%d): %q", n, s)
		}
		if back, e := Unnumber(s); back != n || e != api.OK {
			t.Fatalf("Unnumber(%q): %d, %d", s, back, e)
		}
	}
}

// Numbers are in order as their letters are.
func TestNumbersInOrder(t *testing.T) {
	list := numbers()
	slices.Sort(list)
	list = slices.Compact(list)
	for i, n := range list[1:] {
		if Number(list[i]) >= Number(n) {
			t.Errorf("%d and %d: %q, %q", list[i], n, Number(list[i]), Number(n))
		}
	}
}

func refuseNumber(t *testing.T, s string) {
	t.Helper()
	if n, e := Unnumber(s); n != 0 || e != api.ErrText {
		t.Errorf("Unnumber(%q): %d, %d", s, n, e)
	}
}

func TestUnnumberOfWrongTexts(t *testing.T) {
	for n := range 40 {
		if n != 13 {
			refuseNumber(t, strings.Repeat("0", n))
			refuseNumber(t, strings.Repeat("f", n))
		}
	}
	for _, first := range "ghijklmnopqrstuv" {
		refuseNumber(t, string(first)+"000000000000")
		refuseNumber(t, string(first)+"vvvvvvvvvvvv")
	}
	for _, s := range []string{
		"F000000000000", "000000000000V", "000000000000w", "000000000000z", " 000000000001", "000000000001 ",
		"-000000000001", "+000000000001", "0x00000000001", "00000000000\xc3\xa9", "00000000000000", "000000000000\x00",
		strings.Repeat("\x00", 13), strings.Repeat("\xff", 13), strings.Repeat("é", 13), strings.Repeat("0", 65536),
	} {
		refuseNumber(t, s)
	}
	for _, s := range []string{"0000000000000", "fvvvvvvvvvvvv", "123456789abcd"} {
		unlike(s, "0123456789abcdefghijklmnopqrstuv", func(wrong string) { refuseNumber(t, wrong) })
	}
}

// Every letter at every place is worth what its place among the letters says.
func TestUnnumberByPlaces(t *testing.T) {
	letters := "0123456789abcdefghijklmnopqrstuv"
	for i := range 13 {
		for worth := range len(letters) {
			s := []byte("0000000000000")
			s[i] = letters[worth]
			if i == 0 && worth > 15 {
				refuseNumber(t, string(s))
				continue
			}
			if n, e := Unnumber(string(s)); n != uint64(worth)<<(5*(12-i)) || e != api.OK {
				t.Errorf("Unnumber(%q): %d, %d", s, n, e)
			}
		}
	}
}

// R4: what is handed in stays as it is, with its spare room, and answers share nothing.
func TestMemory(t *testing.T) {
	for _, n := range []int{0, 1, 4, 5, 6, 40} {
		room := noise(rand.New(rand.NewSource(4)), 64)
		was := slices.Clone(room)
		h, s := Hex(room[:n]), Base(room[:n])
		if !bytes.Equal(room, was) {
			t.Errorf("%d bytes: what was handed in has changed", n)
		}
		clear(room)
		if h != hex.EncodeToString(was[:n]) || s != standard().EncodeToString(was[:n]) {
			t.Errorf("%d bytes: what was handed in is kept", n)
		}
		for _, back := range []func() ([]byte, api.Errno){
			func() ([]byte, api.Errno) { return Unhex(h) },
			func() ([]byte, api.Errno) { return Unbase(s) },
		} {
			a, _ := back()
			clear(a[:cap(a)])
			if b, e := back(); !bytes.Equal(b, was[:n]) || e != api.OK {
				t.Errorf("%d bytes: two answers share memory", n)
			}
		}
	}
}
