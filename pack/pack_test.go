package pack

import (
	"bytes"
	"encoding/binary"
	"fmt"
	"math"
	"math/rand"
	"strings"
	"testing"

	"chartulary/api"
)

// digest: one whose bytes are all told apart.
func digest(from byte) api.Digest {
	var d api.Digest
	for i := range d {
		d[i] = from + byte(i)
	}
	return d
}

// packed: what Pack writes, by the library.
func packed(n uint64) string { return string(binary.AppendUvarint(nil, n)) }

// ends are the least and the greatest number of each length that Pack has.
func ends() []uint64 {
	list := []uint64{0, 127}
	for bits := 7; bits < 63; bits += 7 {
		list = append(list, 1<<bits, 1<<(bits+7)-1)
	}
	return append(list, 1<<63, math.MaxUint64)
}

// signed are whole numbers at both ends, about 0, and beside each power of two.
func signed() []int64 {
	list := []int64{math.MinInt64, math.MaxInt64, 0}
	for i := range 63 {
		p := int64(1) << i
		list = append(list, p-1, p, p+1, -p-1, -p, 1-p)
	}
	return list
}

// P10.1

func TestWriter(t *testing.T) {
	d := digest(1)
	for i, c := range []struct {
		w    *Writer
		want string
	}{
		{New(), ""},
		{New().Num(0), "\x00"},
		{New().Num(300), "\xac\x02"},
		{New().Int(0), "\x00"},
		{New().Int(-1), "\x01"},
		{New().Int(1), "\x02"},
		{New().Int(-3), "\x05"},
		{New().Int(64), "\x80\x01"},
		{New().Int(-64), "\x7f"},
		{New().Int(math.MaxInt64), "\xfe\xff\xff\xff\xff\xff\xff\xff\xff\x01"},
		{New().Int(math.MinInt64), "\xff\xff\xff\xff\xff\xff\xff\xff\xff\x01"},
		{New().Flag(true), "\x01"},
		{New().Flag(false), "\x00"},
		{New().Text(""), "\x00"},
		{New().Text("ab"), "\x02ab"},
		{New().Text("\x00\xff\x80"), "\x03\x00\xff\x80"},
		{New().Text("\u00e9"), "\x02\xc3\xa9"},
		{New().Text(strings.Repeat("x", 127)), "\x7f" + strings.Repeat("x", 127)},
		{New().Text(strings.Repeat("x", 128)), "\x80\x01" + strings.Repeat("x", 128)},
		{New().Text(strings.Repeat("x", api.MaxRecord)), "\x80\x80\x01" + strings.Repeat("x", api.MaxRecord)},
		{New().Text(strings.Repeat("x", api.MaxRecord+1)), "\x81\x80\x01" + strings.Repeat("x", api.MaxRecord+1)},
		{New().Digest(d), string(d[:])},
		{New().Digest(api.Digest{}), strings.Repeat("\x00", 32)},
		{New().Num(300).Int(-3).Flag(true).Text("ab").Digest(d).Flag(false).Num(1), "\xac\x02\x05\x01\x02ab" + string(d[:]) + "\x00\x01"},
	} {
		if got := string(c.w.Out()); got != c.want {
			t.Errorf("%d: %q, not %q", i, got, c.want)
		}
	}
}

func TestWriterNumbers(t *testing.T) {
	for i, n := range ends() {
		got := string(New().Num(n).Out())
		if got != packed(n) || len(got) != i/2+1 {
			t.Errorf("Num(%d): %x", n, got)
		}
	}
	for _, n := range signed() {
		if got, want := New().Int(n).Out(), binary.AppendVarint(nil, n); !bytes.Equal(got, want) {
			t.Errorf("Int(%d): %x, not %x", n, got, want)
		}
	}
}

// Each call answers the Writer itself, so that what is written by its answer is written with it.
func TestWriterItself(t *testing.T) {
	w := New()
	for i, same := range []*Writer{w.Num(1), w.Int(1), w.Flag(true), w.Flag(false), w.Text("a"), w.Text(""), w.Digest(digest(0))} {
		if same != w {
			t.Errorf("%d: another one", i)
		}
	}
	w.Num(7).Num(8)
	w.Num(9)
	if got := w.Out(); !bytes.Equal(got[len(got)-3:], []byte{7, 8, 9}) {
		t.Errorf("%x", got)
	}
	a, b := New(), New()
	a.Num(1)
	b.Num(2)
	if a == b || string(a.Out()) != "\x01" || string(b.Out()) != "\x02" {
		t.Errorf("two are one: %x, %x", a.Out(), b.Out())
	}
}

func TestWriterNil(t *testing.T) {
	var w *Writer
	for i, n := range []*Writer{w.Num(1), w.Int(-1), w.Flag(true), w.Flag(false), w.Text("a"), w.Text(""), w.Digest(digest(1)), w.Num(1).Int(1).Flag(true).Text("").Digest(digest(1))} {
		if n != nil {
			t.Errorf("%d: not nil", i)
		}
	}
	if b := w.Out(); b != nil {
		t.Errorf("Out: %x", b)
	}
}

func TestWriterZero(t *testing.T) {
	var w Writer
	if b := w.Out(); len(b) != 0 {
		t.Errorf("%x", b)
	}
	if b := w.Num(1).Text("a").Out(); string(b) != "\x01\x01a" {
		t.Errorf("%x", b)
	}
}

// spoil: a caller changes what was answered, spare room included.
func spoil(b []byte) {
	b = b[:cap(b)]
	for i := range b {
		b[i] ^= 0xFF
	}
}

// Out is new memory each time: what a caller does to it is nothing to the Writer, nor to another answer.
func TestOutIsNew(t *testing.T) {
	w, want := New(), ""
	spoil(w.Out())
	spoil(append(w.Out(), 7))
	var kept [][]byte
	var texts []string
	for i := range 300 {
		one, two := w.Out(), w.Out()
		spoil(one)
		if string(two) != want || string(w.Out()) != want {
			t.Fatalf("%d: %x, not %x", i, two, want)
		}
		kept, texts = append(kept, two), append(texts, want)
		w.Num(uint64(i)).Flag(i%2 == 0).Text("t")
		want += packed(uint64(i)) + string([]byte{byte(1 - i%2)}) + "\x01t"
	}
	for i := range kept {
		if string(kept[i]) != texts[i] {
			t.Errorf("%d: what was answered has changed", i)
		}
		spoil(kept[i])
	}
	if string(w.Out()) != want {
		t.Error("the Writer has changed")
	}
}

// A digest is written as it was then.
func TestDigestIsCopied(t *testing.T) {
	d := digest(1)
	w := New().Digest(d)
	d[0] = 99
	if want := digest(1); d[1] != 2 || string(w.Out()) != string(want[:]) {
		t.Errorf("%x", w.Out())
	}
}

// P10.2

// calls are all kinds of readings, their answers as texts.
var calls = []struct {
	name string
	read func(r *Reader) string
}{
	{"Num", func(r *Reader) string { return fmt.Sprint(r.Num()) }},
	{"Int", func(r *Reader) string { return fmt.Sprint(r.Int()) }},
	{"Flag", func(r *Reader) string { return fmt.Sprint(r.Flag()) }},
	{"Text", func(r *Reader) string { return fmt.Sprintf("%q", r.Text()) }},
	{"Digest", func(r *Reader) string { return fmt.Sprintf("%x", r.Digest()) }},
	{"Count -1", func(r *Reader) string { return fmt.Sprint(r.Count(-1)) }},
	{"Count 0", func(r *Reader) string { return fmt.Sprint(r.Count(0)) }},
	{"Count 1", func(r *Reader) string { return fmt.Sprint(r.Count(1)) }},
	{"Count 5", func(r *Reader) string { return fmt.Sprint(r.Count(5)) }},
	{"Error", func(r *Reader) string { return fmt.Sprint(r.Error()) }},
	{"End", func(r *Reader) string { return fmt.Sprint(r.End()) }},
}

// noughts are what the kinds of readings answer of nothing; the last two tell what is wrong.
var noughts = []string{"0", "0", "false", `""`, strings.Repeat("0", 64), "0", "0", "0", "0"}

// stuck: each kind of reading answers noughts, twice, and the error stays.
func stuck(t *testing.T, name string, r *Reader, e api.Errno) {
	t.Helper()
	for range 2 {
		for i, want := range noughts {
			if got := calls[i].read(r); got != want {
				t.Errorf("%s: then %s: %s", name, calls[i].name, got)
			}
			if got := r.Error(); got != e {
				t.Errorf("%s: then %s: Error: %d, not %d", name, calls[i].name, got, e)
			}
			if got := r.End(); got != e {
				t.Errorf("%s: then %s: End: %d, not %d", name, calls[i].name, got, e)
			}
		}
	}
}

func TestReader(t *testing.T) {
	d, big := digest(1), digest(200)
	b := New().Num(300).Int(-3).Flag(true).Text("ab").Digest(d).Flag(false).Num(5).Text("").Int(9).Digest(big).Out()
	r := Read(b)
	if n := r.Num(); n != 300 {
		t.Errorf("Num: %d", n)
	}
	if n := r.Int(); n != -3 {
		t.Errorf("Int: %d", n)
	}
	if !r.Flag() {
		t.Error("Flag: false")
	}
	if s := r.Text(); s != "ab" {
		t.Errorf("Text: %q", s)
	}
	if got := r.Digest(); got != d {
		t.Errorf("Digest: %x", got)
	}
	if r.Flag() {
		t.Error("Flag: true")
	}
	if n := r.Count(5); n != 5 {
		t.Errorf("Count: %d", n)
	}
	if s := r.Text(); s != "" {
		t.Errorf("Text: %q", s)
	}
	if n := r.Int(); n != 9 {
		t.Errorf("Int: %d", n)
	}
	if e := r.Error(); e != api.OK {
		t.Errorf("Error: %d", e)
	}
	if got := r.Digest(); got != big {
		t.Errorf("Digest: %x", got)
	}
	for range 2 {
		if e := r.Error(); e != api.OK {
			t.Errorf("Error: %d", e)
		}
		if e := r.End(); e != api.OK {
			t.Errorf("End: %d", e)
		}
	}
}

func TestReaderNumbers(t *testing.T) {
	for _, n := range ends() {
		r := Read(New().Num(n).Out())
		if got := r.Num(); got != n || r.End() != api.OK {
			t.Errorf("%d: %d, %d", n, got, r.End())
		}
	}
	for _, n := range signed() {
		r := Read(New().Int(n).Out())
		if got := r.Int(); got != n || r.End() != api.OK {
			t.Errorf("%d: %d, %d", n, got, r.End())
		}
	}
}

// wrongs are bytes with a reading, by its place in calls, that goes wrong at them.
var wrongs = []struct {
	name string
	b    string
	call int
	e    api.Errno
}{
	{"Num of nothing", "", 0, api.ErrShort},
	{"Num cut off", "\x80", 0, api.ErrShort},
	{"Num of nine bytes", strings.Repeat("\xff", 9), 0, api.ErrShort},
	{"Num too long", "\x80\x00", 0, api.ErrForm},
	{"Num too long, more", "\x81\x80\x00\x07", 0, api.ErrForm},
	{"Num of 65 bits", strings.Repeat("\xff", 9) + "\x02", 0, api.ErrForm},
	{"Num of eleven bytes", strings.Repeat("\x80", 10) + "\x01", 0, api.ErrForm},
	{"Int of nothing", "", 1, api.ErrShort},
	{"Int cut off", "\xff\xff", 1, api.ErrShort},
	{"Int too long", "\x81\x00", 1, api.ErrForm},
	{"Int of 65 bits", strings.Repeat("\xff", 9) + "\x02", 1, api.ErrForm},
	{"Flag of nothing", "", 2, api.ErrShort},
	{"Flag 2", "\x02", 2, api.ErrForm},
	{"Flag 128", "\x80", 2, api.ErrForm},
	{"Flag 129", "\x81\x01", 2, api.ErrForm},
	{"Flag 255", "\xff\x00", 2, api.ErrForm},
	{"Text of nothing", "", 3, api.ErrShort},
	{"Text, its length cut off", "\x81", 3, api.ErrShort},
	{"Text, its length too long", "\x81\x00ab", 3, api.ErrForm},
	{"Text, its length too long, of nought", "\x80\x00", 3, api.ErrForm},
	{"Text, its length of 65 bits", strings.Repeat("\xff", 9) + "\x7f", 3, api.ErrForm},
	{"Text, none of its bytes", "\x01", 3, api.ErrShort},
	{"Text, a byte missing", "\x03ab", 3, api.ErrShort},
	{"Text of MaxRecord, a byte missing", packed(api.MaxRecord) + strings.Repeat("x", api.MaxRecord-1), 3, api.ErrShort},
	{"Text of one more", packed(api.MaxRecord+1) + strings.Repeat("x", api.MaxRecord+1), 3, api.ErrLarge},
	{"Text of one more, its bytes missing", packed(api.MaxRecord + 1), 3, api.ErrLarge},
	{"Text of very many", packed(math.MaxUint64) + "ab", 3, api.ErrLarge},
	{"Text of 2^63", packed(1<<63) + "ab", 3, api.ErrLarge},
	{"Text of 2^32", packed(1<<32) + "ab", 3, api.ErrLarge},
	{"Digest of nothing", "", 4, api.ErrShort},
	{"Digest of a byte", "\x01", 4, api.ErrShort},
	{"Digest, a byte missing", strings.Repeat("d", 31), 4, api.ErrShort},
	{"Count of nothing", "", 8, api.ErrShort},
	{"Count cut off", "\x80", 8, api.ErrShort},
	{"Count too long", "\x81\x00", 8, api.ErrForm},
	{"Count, one above", "\x06", 8, api.ErrLarge},
	{"Count 1 of 0", "\x01", 6, api.ErrLarge},
	{"Count, far above", packed(math.MaxUint64), 8, api.ErrLarge},
	{"Count, as if below 0", packed(1 << 63), 8, api.ErrLarge},
	{"Count, most below 0", "\x00", 5, api.ErrLarge},
	{"Count, most below 0, 1", "\x01", 5, api.ErrLarge},
	{"Count, most below 0, very many", packed(math.MaxUint64), 5, api.ErrLarge},
	{"Count, most below 0, nothing", "", 5, api.ErrShort},
	{"Count, most below 0, too long", "\x80\x00", 5, api.ErrForm},
	{"End with something left", "\x00", 10, api.ErrForm},
}

// The first thing that is wrong stays, whatever is there behind it, and whatever was read ahead of it.
func TestFirstWrong(t *testing.T) {
	d := digest(3)
	ahead := New().Num(300).Int(-1).Flag(true).Text("abc").Digest(d).Num(5).Out()
	for _, c := range wrongs {
		for _, before := range [][]byte{nil, ahead} {
			r := Read(append(bytes.Clone(before), c.b...))
			if before != nil && (r.Num() != 300 || r.Int() != -1 || !r.Flag() || r.Text() != "abc" || r.Digest() != d || r.Count(5) != 5) {
				t.Errorf("%s: what is ahead", c.name)
			}
			if e := r.Error(); e != api.OK {
				t.Errorf("%s: ahead: %d", c.name, e)
			}
			got := calls[c.call].read(r)
			if c.call < len(noughts) && got != noughts[c.call] {
				t.Errorf("%s: %s", c.name, got)
			}
			if e := r.Error(); e != c.e {
				t.Errorf("%s: %d, not %d", c.name, e, c.e)
			}
			stuck(t, c.name, r, c.e)
		}
	}
}

// What would be read well is not, and is not looked at, behind something wrong.
func TestNothingBehindWrong(t *testing.T) {
	d := digest(5)
	good := string(New().Num(1).Flag(true).Text("abc").Digest(d).Int(-4).Num(1).Out())
	for _, first := range []struct {
		b    string
		read func(r *Reader) string
		e    api.Errno
	}{
		{"\x02", calls[2].read, api.ErrForm},
		{"\x81\x00", calls[0].read, api.ErrForm},
		{packed(api.MaxRecord + 1), calls[3].read, api.ErrLarge},
		{"\x06", calls[8].read, api.ErrLarge},
		{"\x00", calls[5].read, api.ErrLarge},
		{"", calls[10].read, api.ErrForm},
	} {
		r := Read([]byte(first.b + good))
		first.read(r)
		stuck(t, fmt.Sprintf("%q", first.b), r, first.e)
	}
}

func TestFlag(t *testing.T) {
	for c := range 256 {
		r := Read([]byte{byte(c), 1})
		got, e := r.Flag(), r.Error()
		if want := c == 1; got != want {
			t.Errorf("%d: %v", c, got)
		}
		if (e == api.OK) != (c < 2) || e != api.OK && e != api.ErrForm {
			t.Errorf("%d: %d", c, e)
		}
		if c < 2 && (!r.Flag() || r.End() != api.OK) {
			t.Errorf("%d: the one behind it", c)
		}
	}
}

func TestTextLengths(t *testing.T) {
	for _, n := range []int{0, 1, 2, 127, 128, 129, api.MaxRecord - 1, api.MaxRecord} {
		s := strings.Repeat("x\x00\xff", n)[:n]
		r := Read(New().Text(s).Text("behind").Out())
		if got := r.Text(); got != s || r.Error() != api.OK {
			t.Errorf("%d: %d bytes, %d", n, len(got), r.Error())
		}
		if r.Text() != "behind" || r.End() != api.OK {
			t.Errorf("%d: the one behind it", n)
		}
		b := New().Text(s).Out()
		for _, cut := range []int{1, 2, n / 2, n} {
			if cut < 1 || cut > n {
				continue
			}
			r := Read(b[:len(b)-cut])
			if got := r.Text(); got != "" || r.Error() != api.ErrShort {
				t.Errorf("%d, %d missing: %d bytes, %d", n, cut, len(got), r.Error())
			}
		}
	}
	for _, n := range []int{api.MaxRecord + 1, api.MaxRecord + 2, 2 * api.MaxRecord, 1 << 20} {
		r := Read(New().Text(strings.Repeat("x", n)).Out())
		if got := r.Text(); got != "" || r.Error() != api.ErrLarge {
			t.Errorf("%d: %d bytes, %d", n, len(got), r.Error())
		}
	}
}

func TestDigestLengths(t *testing.T) {
	d := digest(7)
	for n := range len(d) {
		r := Read(d[:n])
		if got := r.Digest(); got != (api.Digest{}) || r.Error() != api.ErrShort {
			t.Errorf("%d: %x, %d", n, got, r.Error())
		}
	}
	r := Read(append(d[:], 5))
	if r.Digest() != d || r.Error() != api.OK || r.Num() != 5 || r.End() != api.OK {
		t.Errorf("33 bytes: %d", r.Error())
	}
}

func TestCount(t *testing.T) {
	mosts := []int{math.MinInt, math.MinInt32, -2, -1, 0, 1, 2, 126, 127, 128, math.MaxInt32, math.MaxInt - 1, math.MaxInt}
	for _, most := range mosts {
		for _, n := range append(ends(), 1, 2, 126, math.MaxInt32, math.MaxInt32+1, math.MaxInt-1, math.MaxInt) {
			r := Read([]byte(packed(n)))
			got, e := r.Count(most), r.End()
			if most >= 0 && n <= uint64(most) {
				if uint64(got) != n || e != api.OK {
					t.Errorf("Count(%d) of %d: %d, %d", most, n, got, e)
				}
			} else if got != 0 || e != api.ErrLarge {
				t.Errorf("Count(%d) of %d: %d, %d", most, n, got, e)
			}
		}
	}
}

// End says nothing new while nothing is left, and what is read behind that is too short.
func TestEnd(t *testing.T) {
	for _, b := range [][]byte{nil, {}} {
		r := Read(b)
		if r == nil {
			t.Fatal("a nil one")
		}
		for range 2 {
			if r.Error() != api.OK || r.End() != api.OK {
				t.Errorf("nothing: %d, %d", r.Error(), r.End())
			}
		}
		r.Num()
		stuck(t, "Num behind End", r, api.ErrShort)
	}
	r := Read([]byte{1, 1})
	if r.Num() != 1 || r.Error() != api.OK {
		t.Errorf("Num: %d", r.Error())
	}
	if e := r.End(); e != api.ErrForm {
		t.Errorf("End: %d", e)
	}
	stuck(t, "End ahead of the end", r, api.ErrForm)
	r = Read([]byte{1})
	if e := r.Error(); e != api.OK {
		t.Errorf("Error with something left: %d", e)
	}
	if r.Num() != 1 || r.End() != api.OK || r.End() != api.OK {
		t.Errorf("behind Error: %d", r.Error())
	}
}

func TestReaderNil(t *testing.T) {
	var r *Reader
	stuck(t, "nil", r, api.ErrArg)
}

func TestReaderZero(t *testing.T) {
	var r Reader
	if r.Error() != api.OK || r.End() != api.OK {
		t.Errorf("%d, %d", r.Error(), r.End())
	}
	r.Flag()
	stuck(t, "zero", &r, api.ErrShort)
}

// What is handed in stays as it was, spare room included, and what was answered is nothing of it.
func TestHandedIn(t *testing.T) {
	d := digest(9)
	b := New().Num(300).Text("abc").Digest(d).Flag(true).Int(-1).Num(2).Out()
	room := append(make([]byte, 0, 2*len(b)), b...)
	whole := bytes.Clone(room[:cap(room)])
	r := Read(room)
	r.Num()
	s, got := r.Text(), r.Digest()
	r.Flag()
	r.Int()
	r.Count(1)
	stuck(t, "what is handed in", r, api.ErrLarge)
	if !bytes.Equal(room[:cap(room)], whole) {
		t.Error("it has changed")
	}
	got[0]++
	if !bytes.Equal(room[:cap(room)], whole) {
		t.Error("a digest is a piece of it")
	}
	spoil(room)
	if s != "abc" || got[1] != d[1] {
		t.Errorf("what was answered has changed: %q, %x", s, got)
	}
}

// A Reader reads what it was given, not what is behind it in its room.
func TestSpareRoom(t *testing.T) {
	room := []byte{2, 'a', 'b', 1, 1}
	for n, e := range []api.Errno{api.ErrShort, api.ErrShort, api.ErrShort, api.OK} {
		r := Read(room[:n])
		r.Text()
		if got := r.End(); got != e {
			t.Errorf("%d: %d, not %d", n, got, e)
		}
	}
	r := Read(make([]byte, 31, 64))
	if r.Digest(); r.Error() != api.ErrShort {
		t.Errorf("Digest: %d", r.Error())
	}
}

// Two Readers of the same bytes know nothing of one another.
func TestApart(t *testing.T) {
	b := []byte{2, 1}
	one, two := Read(b), Read(b)
	if one.Flag() || one.Error() != api.ErrForm {
		t.Errorf("one: %d", one.Error())
	}
	if two.Num() != 2 || two.Num() != 1 || two.End() != api.OK {
		t.Errorf("two: %d", two.Error())
	}
}

// A second reading of the chapter

// second reads a text from a place on.
type second struct {
	s  string
	at int
	e  api.Errno
}

// firstNum: the number that a text begins with, by the library, and what is wrong with it.
func firstNum(s string) (uint64, int, api.Errno) {
	end := 0
	for end < len(s) && s[end] >= 0x80 {
		end++
	}
	if end >= 10 {
		return 0, 0, api.ErrForm
	}
	if end == len(s) {
		return 0, 0, api.ErrShort
	}
	n, used := binary.Uvarint([]byte(s))
	if used <= 0 || packed(n) != s[:used] {
		return 0, 0, api.ErrForm
	}
	return n, used, api.OK
}

// read: what a call answers, as calls tell it.
func (m *second) read(name string) string {
	var most int
	fmt.Sscanf(name, "Count %d", &most)
	kind, _, _ := strings.Cut(name, " ")
	left := m.s[m.at:]
	switch {
	case kind == "End" && m.e == api.OK && left != "":
		m.e = api.ErrForm
		fallthrough
	case kind == "End" || kind == "Error":
		return fmt.Sprint(m.e)
	}
	var answer string
	if m.e == api.OK {
		answer, m.e = m.one(kind, most, left)
	}
	if m.e != api.OK {
		answer = map[string]string{"Flag": "false", "Text": `""`, "Digest": strings.Repeat("0", 64)}[kind]
		if answer == "" {
			answer = "0"
		}
	}
	return answer
}

// one: a call at what is left, while nothing is wrong.
func (m *second) one(kind string, most int, left string) (string, api.Errno) {
	switch kind {
	case "Flag":
		if left == "" {
			return "", api.ErrShort
		}
		if !strings.ContainsAny(left[:1], "\x00\x01") {
			return "", api.ErrForm
		}
		m.at++
		return fmt.Sprint(left[0] == 1), api.OK
	case "Digest":
		if len(left) < 32 {
			return "", api.ErrShort
		}
		m.at += 32
		return fmt.Sprintf("%x", left[:32]), api.OK
	}
	n, used, e := firstNum(left)
	if e != api.OK {
		return "", e
	}
	m.at += used
	switch kind {
	case "Int":
		i, _ := binary.Varint([]byte(left))
		return fmt.Sprint(i), api.OK
	case "Count":
		if most < 0 || n > uint64(most) {
			return "", api.ErrLarge
		}
	case "Text":
		if n > 16384 {
			return "", api.ErrLarge
		}
		if n > uint64(len(left)-used) {
			return "", api.ErrShort
		}
		m.at += int(n)
		return fmt.Sprintf("%q", left[used:used+int(n)]), api.OK
	}
	return fmt.Sprint(n), api.OK
}

// held: a row of calls at a text, by the Reader and by the second reading.
func held(t *testing.T, s string, row []int) {
	t.Helper()
	r, m := Read([]byte(s)), &second{s: s}
	for i, c := range row {
		got, want := calls[c].read(r), m.read(calls[c].name)
		if got != want || r.Error() != m.e {
			t.Fatalf("%q: %d of %v, %s: %s, %d, not %s, %d", s, i, row, calls[c].name, got, r.Error(), want, m.e)
		}
	}
}

// words: all texts of the letters, of at most so many bytes.
func words(letters string, most int) []string {
	list := []string{""}
	from := 0
	for range most {
		to := len(list)
		for _, s := range list[from:to] {
			for i := range len(letters) {
				list = append(list, s+letters[i:i+1])
			}
		}
		from = to
	}
	return list
}

// rows: all rows of so many calls; those that are shorter begin one of them.
func rows(n int) [][]int {
	list := [][]int{nil}
	for range n {
		var next [][]int
		for _, row := range list {
			for c := range calls {
				next = append(next, append(append([]int(nil), row...), c))
			}
		}
		list = next
	}
	return list
}

func TestShortTexts(t *testing.T) {
	all := rows(2)
	for _, s := range words("\x00\x01\x02\x05\x06\x80\x81\xff", 4) {
		for _, row := range all {
			held(t, s, row)
		}
	}
	all = rows(3)
	for _, s := range words("\x00\x01\x02\x80", 4) {
		for _, row := range all {
			held(t, s, row)
		}
	}
}

// drawn: fields of any kinds, and the calls that read them.
func drawn(t *testing.T, d *rand.Rand) (string, []int) {
	w, want, row := New(), "", []int(nil)
	for range d.Intn(8) {
		n := d.Uint64() >> d.Intn(64)
		switch c := d.Intn(6); c {
		case 0:
			w.Num(n)
			want, row = want+packed(n), append(row, 0)
		case 1:
			w.Int(int64(n))
			want, row = want+string(binary.AppendVarint(nil, int64(n))), append(row, 1)
		case 2:
			w.Flag(n%2 == 1)
			want, row = want+string([]byte{byte(n % 2)}), append(row, 2)
		case 3:
			s := strings.Repeat("ab\x00", d.Intn(60))
			w.Text(s)
			want, row = want+packed(uint64(len(s)))+s, append(row, 3)
		case 4:
			g := digest(byte(n))
			w.Digest(g)
			want, row = want+string(g[:]), append(row, 4)
		case 5:
			w.Num(n % 6)
			want, row = want+packed(n%6), append(row, 8)
		}
	}
	if string(w.Out()) != want {
		t.Fatalf("%x, not %x", w.Out(), want)
	}
	return want, append(row, 9, 10)
}

// Fields are read as they were written; and, with something done to them, as the chapter says.
func TestDrawn(t *testing.T) {
	d := rand.New(rand.NewSource(10))
	for range 20000 {
		s, row := drawn(t, d)
		held(t, s, row)
		r := Read([]byte(s))
		for _, c := range row {
			calls[c].read(r)
		}
		if r.End() != api.OK {
			t.Fatalf("%q: %d", s, r.End())
		}
		held(t, s[:d.Intn(len(s)+1)], row)
		held(t, s+string([]byte{byte(d.Intn(256))}), row)
		if len(s) > 0 {
			b := []byte(s)
			b[d.Intn(len(b))] ^= byte(1 << d.Intn(8))
			held(t, string(b), append(row, d.Intn(len(calls))))
		}
		other := make([]int, 6)
		for i := range other {
			other[i] = d.Intn(len(calls))
		}
		held(t, s, other)
	}
}
