package frame

import (
	"bytes"
	"encoding/binary"
	"hash/crc32"
	"math"
	"math/rand"
	"slices"
	"strings"
	"testing"

	"chartulary/api"
)

// framed: the frame of bytes, by the library, of any length.
func framed(b []byte) []byte {
	f := binary.BigEndian.AppendUint32(nil, uint32(len(b)))
	f = binary.BigEndian.AppendUint32(f, crc32.Checksum(b, crc32.MakeTable(crc32.Castagnoli)))
	return append(f, b...)
}

// readFirst: First once more, straight from the chapter.
func readFirst(b []byte) ([]byte, int, api.Errno) {
	if len(b) < 8 {
		return nil, 0, api.ErrShort
	}
	n := int64(binary.BigEndian.Uint32(b))
	if n > 16384 {
		return nil, 0, api.ErrForm
	}
	if int64(len(b)) < 8+n {
		return nil, 0, api.ErrShort
	}
	if !bytes.HasPrefix(b, framed(b[8:8+n])) {
		return nil, 0, api.ErrForm
	}
	return b[8 : 8+n], int(8 + n), api.OK
}

// readScan: Scan once more, straight from the chapter.
func readScan(b []byte) (list [][]byte, used int) {
	in, n, e := readFirst(b)
	for e == api.OK {
		list, used = append(list, in), used+n
		in, n, e = readFirst(b[used:])
	}
	return list, used
}

// asRead fails if First or Scan of bytes is another one than the second reading's, or changes them.
func asRead(t *testing.T, b []byte) {
	t.Helper()
	was := slices.Clone(b)
	in, n, e := First(b)
	wantIn, wantN, wantE := readFirst(b)
	if !bytes.Equal(in, wantIn) || n != wantN || e != wantE {
		t.Fatalf("First(%.40x), of %d bytes: %.40x, %d, %d, not %.40x, %d, %d", b, len(b), in, n, e, wantIn, wantN, wantE)
	}
	list, used := Scan(b)
	wantList, wantUsed := readScan(b)
	if !slices.EqualFunc(list, wantList, bytes.Equal) || used != wantUsed {
		t.Fatalf("Scan(%.40x), of %d bytes: %d frames, %d bytes, not %d, %d", b, len(b), len(list), used, len(wantList), wantUsed)
	}
	if !bytes.Equal(b, was) {
		t.Fatalf("%.40x was changed", was)
	}
}

// wrong fails if First of bytes has another error, or anything beside it, or if Scan finds a frame.
func wrong(t *testing.T, name string, b []byte, want api.Errno) {
	t.Helper()
	if in, n, e := First(b); len(in) != 0 || n != 0 || e != want {
		t.Errorf("%s: First: %d bytes, %d, %d, not error %d", name, len(in), n, e, want)
	}
	if list, used := Scan(b); len(list) != 0 || used != 0 {
		t.Errorf("%s: Scan: %d frames, %d bytes", name, len(list), used)
	}
}

// right fails if First of bytes is not just what is wanted.
func right(t *testing.T, name string, b []byte, want string) {
	t.Helper()
	if in, n, e := First(b); string(in) != want || n != 8+len(want) || e != api.OK {
		t.Errorf("%s: First: %d bytes, %d, %d, not %d bytes", name, len(in), n, e, len(want))
	}
}

// drawn: so many bytes of any kind.
func drawn(r *rand.Rand, n int) []byte {
	b := make([]byte, n)
	r.Read(b)
	return b
}

// lengths are those of what may be in a frame, at the ends and beside what fits bytes.
var lengths = []int{0, 1, 2, 7, 8, 9, 31, 32, 33, 127, 128, 255, 256, 257, 8191, 8192, 16383, api.MaxRecord}

// P11.1: Put

func TestPut(t *testing.T) {
	for i, c := range []struct{ in, want string }{
		{"", "\x00\x00\x00\x00\x00\x00\x00\x00"},
		{"123456789", "\x00\x00\x00\x09\xE3\x06\x92\x83123456789"},
		{"a", "\x00\x00\x00\x01\xC1\xD0\x43\x30a"},
		{strings.Repeat("\x00", 32), "\x00\x00\x00\x20\x8A\x91\x36\xAA" + strings.Repeat("\x00", 32)},
		{strings.Repeat("\xFF", 32), "\x00\x00\x00\x20\x62\xA8\xAB\x43" + strings.Repeat("\xFF", 32)},
	} {
		if b, e := Put([]byte(c.in)); string(b) != c.want || e != api.OK {
			t.Errorf("%d: %x, %d, not %x", i, b, e, c.want)
		}
	}
	for _, in := range [][]byte{nil, {}, make([]byte, 0, 9)} {
		if b, e := Put(in); string(b) != strings.Repeat("\x00", 8) || e != api.OK {
			t.Errorf("of nothing: %x, %d", b, e)
		}
	}
}

func TestPutLengths(t *testing.T) {
	r := rand.New(rand.NewSource(1))
	for _, n := range lengths {
		in := drawn(r, n)
		b, e := Put(in)
		if !bytes.Equal(b, framed(in)) || e != api.OK {
			t.Errorf("%d bytes: %.12x, %d", n, b, e)
		}
		if len(b) != 8+n || b[2] != byte(n>>8) || b[3] != byte(n) {
			t.Errorf("%d bytes: %d, begun with %x", n, len(b), b[:4])
		}
		right(t, "what was put", b, string(in))
	}
}

func TestPutLarge(t *testing.T) {
	for _, n := range []int{api.MaxRecord + 1, api.MaxRecord + 2, 2 * api.MaxRecord, 1 << 16, 1 << 20} {
		if b, e := Put(make([]byte, n)); len(b) != 0 || e != api.ErrLarge {
			t.Errorf("%d bytes: %d, %d", n, len(b), e)
		}
	}
}

// P11.1: First

func TestFirstShort(t *testing.T) {
	wrong(t, "nil", nil, api.ErrShort)
	wrong(t, "empty", []byte{}, api.ErrShort)
	for n := range 8 {
		wrong(t, "a frame of nothing, torn", framed(nil)[:n], api.ErrShort)
		wrong(t, "a frame of a, torn", framed([]byte("a"))[:n], api.ErrShort)
		wrong(t, "a length that is too great, torn", bytes.Repeat([]byte{0xFF}, n), api.ErrShort)
	}
	right(t, "eight bytes", framed(nil), "")
	wrong(t, "eight bytes of 255", bytes.Repeat([]byte{0xFF}, 8), api.ErrForm)
}

// A frame that is torn is too short at each place, and none behind it is told.
func TestFirstTorn(t *testing.T) {
	r := rand.New(rand.NewSource(2))
	for _, size := range []int{1, 2, 9, 40, 300} {
		f := framed(drawn(r, size))
		for n := range f {
			wrong(t, "torn", f[:n], api.ErrShort)
		}
		right(t, "whole", f, string(f[8:]))
	}
	f := framed(drawn(r, api.MaxRecord))
	for _, n := range []int{7, 8, 9, 4096, len(f) - 2, len(f) - 1} {
		wrong(t, "torn", f[:n], api.ErrShort)
	}
	right(t, "whole", f, string(f[8:]))
}

// The error is ErrShort also if the sum would be another one, as what is missing is named first.
func TestFirstTornAndWrong(t *testing.T) {
	f := framed([]byte("abcdef"))
	f[4] ^= 1
	wrong(t, "a wrong sum", f, api.ErrForm)
	wrong(t, "a wrong sum, torn", f[:len(f)-1], api.ErrShort)
}

func TestFirstLength(t *testing.T) {
	r := rand.New(rand.NewSource(3))
	for _, n := range []uint32{api.MaxRecord + 1, api.MaxRecord + 2, 1 << 15, 1 << 16, 1 << 24, 1<<24 + 5, 1<<31 - 1, 1 << 31, 1<<31 + 1, 1<<32 - 8, 1<<32 - 1} {
		for _, more := range []int{0, 1, 5, 20000} {
			f := binary.BigEndian.AppendUint32(nil, n)
			f = append(f, make([]byte, 4+more)...)
			wrong(t, "a length that is too great", f, api.ErrForm)
		}
	}
	// All of it is there, and the sum is right: but no frame has so many.
	for _, n := range []int{api.MaxRecord + 1, 1 << 16} {
		f := framed(drawn(r, n))
		wrong(t, "a frame that is too great", f, api.ErrForm)
		wrong(t, "a frame that is too great, torn", f[:len(f)-1], api.ErrForm)
		wrong(t, "the head of a frame that is too great", f[:8], api.ErrForm)
		wrong(t, "less than the head", f[:7], api.ErrShort)
	}
	for _, n := range lengths[1:] {
		f := framed(drawn(r, n))
		wrong(t, "one byte is missing", f[:len(f)-1], api.ErrShort)
		wrong(t, "all of them are missing", f[:8], api.ErrShort)
		right(t, "just enough", f, string(f[8:]))
	}
}

// With a length that is not its own a frame's sum is that of other bytes.
func TestFirstOtherLength(t *testing.T) {
	f := framed([]byte("123456789"))
	for n := range 16 {
		f[3] = byte(n)
		switch {
		case n < 9:
			wrong(t, "too small a length", f, api.ErrForm)
		case n > 9:
			wrong(t, "too great a length", f, api.ErrShort)
			wrong(t, "too great a length, with more behind", append(slices.Clone(f), "abcdefg"...), api.ErrForm)
		default:
			right(t, "its own length", f, "123456789")
		}
	}
}

func TestFirstSum(t *testing.T) {
	for _, in := range []string{"", "a", "123456789", strings.Repeat("x", api.MaxRecord)} {
		f := framed([]byte(in))
		for at := 4; at < 8; at++ {
			for turned := 1; turned < 256; turned++ {
				g := slices.Clone(f)
				g[at] ^= byte(turned)
				wrong(t, "another sum", g, api.ErrForm)
			}
		}
	}
	// The sum is of what is in it alone, and has its highest byte first.
	f := framed([]byte("123456789"))
	slices.Reverse(f[4:8])
	wrong(t, "a sum with its lowest byte first", f, api.ErrForm)
	ieee := binary.BigEndian.AppendUint32([]byte{0, 0, 0, 9}, crc32.ChecksumIEEE([]byte("123456789")))
	wrong(t, "a sum of another polynomial", append(ieee, "123456789"...), api.ErrForm)
}

func TestFirstBehind(t *testing.T) {
	for _, in := range []string{"", "a", "123456789", strings.Repeat("x", 500)} {
		for _, behind := range []string{"", "\x00", "abc", "\xFF\xFF\xFF\xFF\xFF\xFF\xFF\xFF\xFF", string(framed([]byte("b"))), strings.Repeat("y", 20000)} {
			right(t, "with more behind", append(framed([]byte(in)), behind...), in)
		}
	}
}

// What follows.

// turn: bytes with bits turned, from one of them on, by the bits of a word.
func turn(b []byte, from int, by uint32) []byte {
	b = slices.Clone(b)
	for i := range 32 {
		if by>>i&1 == 1 {
			b[(from+i)/8] ^= 1 << ((from + i) % 8)
		}
	}
	return b
}

// bursts are words that turn bits: one, two, all, and drawn ones.
func bursts(r *rand.Rand) []uint32 {
	list := []uint32{math.MaxUint32, 0x82F63B78, 0x1EDC6F41, 0x05EC76F1, 1<<31 | 1}
	for i := range 32 {
		list = append(list, 1<<i, 1<<i|1, math.MaxUint32>>i)
	}
	for range 40 {
		list = append(list, r.Uint32()|1)
	}
	return list
}

// fit: a word's bits that lie ahead of an end.
func fit(by uint32, from, end int) uint32 {
	if end-from >= 32 {
		return by
	}
	return by & (1<<(end-from) - 1)
}

func TestBursts(t *testing.T) {
	r := rand.New(rand.NewSource(4))
	for _, size := range []int{0, 1, 2, 3, 4, 5, 8, 13, 40} {
		f := framed(drawn(r, size))
		behind := drawn(r, 5)
		for _, by := range bursts(r) {
			for from := 32; from < len(f)*8; from++ {
				end := 64
				if from >= 64 {
					end = len(f) * 8
				}
				if turned := fit(by, from, end); turned != 0 {
					g := turn(f, from, turned)
					wrong(t, "turned", g, api.ErrForm)
					wrong(t, "turned, with more behind", append(g, behind...), api.ErrForm)
				}
			}
		}
	}
}

// A greatest frame, with bits turned at its begin, at its end, and wherever else.
func TestBurstsOfMost(t *testing.T) {
	r := rand.New(rand.NewSource(5))
	f := framed(drawn(r, api.MaxRecord))
	places := []int{64, 65, 71, 72, 96, len(f)*8 - 33, len(f)*8 - 32, len(f)*8 - 31, len(f)*8 - 9, len(f)*8 - 8, len(f)*8 - 1}
	for range 100 {
		places = append(places, 64+r.Intn(len(f)*8-64))
	}
	for _, from := range places {
		for _, by := range []uint32{1, math.MaxUint32, r.Uint32() | 1} {
			wrong(t, "turned", turn(f, from, fit(by, from, len(f)*8)), api.ErrForm)
		}
	}
}

// Each burst of a few bytes, at each of them.
func TestBurstsAll(t *testing.T) {
	f := framed([]byte("ab"))
	for by := 1; by < 1<<16; by++ {
		for _, from := range []int{32, 48, 64} {
			if _, _, e := First(turn(f, from, uint32(by))); e != api.ErrForm {
				t.Fatalf("%x turned from %d on: %d", by, from, e)
			}
		}
	}
}

// P11.1: Scan

// row: frames of texts, one behind the other.
func row(texts ...string) []byte {
	var b []byte
	for _, s := range texts {
		b = append(b, framed([]byte(s))...)
	}
	return b
}

// scanned fails if Scan of bytes is not just what is wanted.
func scanned(t *testing.T, name string, b []byte, used int, want ...string) {
	t.Helper()
	list, n := Scan(b)
	same := func(a []byte, s string) bool { return string(a) == s }
	if !slices.EqualFunc(list, want, same) || n != used {
		t.Errorf("%s: %.200q, %d, not %.200q, %d", name, list, n, want, used)
	}
}

func TestScan(t *testing.T) {
	most := strings.Repeat("m", api.MaxRecord)
	scanned(t, "nil", nil, 0)
	scanned(t, "empty", []byte{}, 0)
	scanned(t, "no frame", []byte("no frame at all"), 0)
	scanned(t, "one", row("a"), 9, "a")
	scanned(t, "one of nothing", row(""), 8, "")
	scanned(t, "some of nothing", row("", "", ""), 24, "", "", "")
	scanned(t, "some", row("a", "", "bc", "a"), 36, "a", "", "bc", "a")
	scanned(t, "the greatest", row(most, "a", most), 2*16392+9, most, "a", most)
	scanned(t, "one that is too great", row("a", most+"m", "b"), 9, "a")
	scanned(t, "a frame in a frame", row(string(row("x", "y"))), 26, string(row("x", "y")))
	var many []string
	for i := range 2000 {
		many = append(many, strings.Repeat(string(rune('a'+i%26)), i%40))
	}
	scanned(t, "many", row(many...), len(row(many...)), many...)
}

func TestScanBehind(t *testing.T) {
	good := row("one", "", "two")
	for _, behind := range []string{"\x00", "abcdefg", "none at all", "\xFF\xFF\xFF\xFF\xFF\xFF\xFF\xFF", "\x00\x00\x40\x01\x00\x00\x00\x00", "\x00\x00\x00\x01\x00\x00\x00\x00", "\x00\x00\x00\x01\x00\x00\x00\x00a", strings.Repeat("\x01", 20000)} {
		scanned(t, "with something behind", append(slices.Clone(good), behind...), len(good), "one", "", "two")
	}
	// Eight bytes 0 are a frame of nothing.
	scanned(t, "with bytes 0 behind", append(slices.Clone(good), make([]byte, 20)...), len(good)+16, "one", "", "two", "", "")
}

func TestScanTorn(t *testing.T) {
	texts := []string{"one", "", "three33", "x"}
	ends := []int{11, 19, 34, 43}
	b := row(texts...)
	for n := range len(b) + 1 {
		whole, used := 0, 0
		for i, end := range ends {
			if end <= n {
				whole, used = i+1, end
			}
		}
		scanned(t, "torn", b[:n], used, texts[:whole]...)
	}
}

// With a bit turned in what is in a frame, or in its sum, it is not told, nor is any behind it.
func TestScanWrong(t *testing.T) {
	texts := []string{"one", "", "three33", "x"}
	b := row(texts...)
	from := 0
	for i, s := range texts {
		for at := from + 4; at < from+8+len(s); at++ {
			for bit := range 8 {
				g := slices.Clone(b)
				g[at] ^= 1 << bit
				scanned(t, "turned", g, from, texts[:i]...)
			}
		}
		from += 8 + len(s)
	}
}

// Memory.

// spoil: a caller changes what was answered, spare room included.
func spoil(b []byte) {
	b = b[:cap(b)]
	for i := range b {
		b[i] ^= 0xFF
	}
}

func TestPutIsNew(t *testing.T) {
	for _, n := range []int{0, 1, 9, api.MaxRecord, api.MaxRecord + 1} {
		room := drawn(rand.New(rand.NewSource(6)), n+50)
		was := slices.Clone(room)
		one, _ := Put(room[:n])
		two, _ := Put(room[:n])
		want := slices.Clone(two)
		spoil(one)
		if !bytes.Equal(two, want) || !bytes.Equal(room, was) {
			t.Errorf("%d bytes: what was answered is not new", n)
		}
		spoil(room)
		if !bytes.Equal(two, want) {
			t.Errorf("%d bytes: what was handed in is kept", n)
		}
	}
}

func TestFirstIsNew(t *testing.T) {
	for _, in := range []string{"", "a", "123456789", strings.Repeat("x", api.MaxRecord)} {
		room := append(row(in, "behind"), "spare"...)
		was := slices.Clone(room)
		b := room[:len(room)-5]
		one, _, _ := First(b)
		two, _, _ := First(b)
		spoil(one)
		if string(two) != in || !bytes.Equal(room, was) {
			t.Errorf("%d bytes: what was answered is not new", len(in))
		}
		spoil(room)
		if string(two) != in {
			t.Errorf("%d bytes: what was handed in is kept", len(in))
		}
	}
}

func TestScanIsNew(t *testing.T) {
	texts := []string{"one", "", "two", "two", strings.Repeat("x", 1000)}
	room := append(row(texts...), "spare"...)
	was := slices.Clone(room)
	for i := range texts {
		list, _ := Scan(room[:len(room)-5])
		other, _ := Scan(room[:len(room)-5])
		spoil(list[i])
		list[i] = nil
		for j, s := range texts {
			if string(other[j]) != s || j != i && string(list[j]) != s {
				t.Errorf("%d is changed with %d", j, i)
			}
		}
		// Who puts something behind the list, or behind one of it, does not change another.
		_ = append(other[:i], []byte("new"))
		again, _ := Scan(room)
		if !bytes.Equal(room, was) || !slices.EqualFunc(again, texts, func(a []byte, s string) bool { return string(a) == s }) {
			t.Fatalf("%d: what was handed in has changed", i)
		}
	}
	list, _ := Scan(room)
	spoil(room)
	if string(list[0]) != "one" || string(list[4]) != texts[4] {
		t.Error("what was handed in is kept")
	}
}

// Nothing is kept from call to call, and nothing hangs on what was asked ahead.
func TestSameAgain(t *testing.T) {
	good, bad := row("abc"), []byte("\x00\x00\x00\x01\x00\x00\x00\x00a")
	for range 3 {
		wrong(t, "wrong", bad, api.ErrForm)
		right(t, "right", good, "abc")
		scanned(t, "one", good, 11, "abc")
		Put(make([]byte, api.MaxRecord+1))
		if b, e := Put([]byte("abc")); !bytes.Equal(b, good) || e != api.OK {
			t.Errorf("%x, %d", b, e)
		}
	}
}

// First and Scan at whatever bytes, against the second reading.

func TestShortBytes(t *testing.T) {
	signs := []byte{0, 1, 2, 0x40, 0xFF}
	var all func(b []byte, left int)
	all = func(b []byte, left int) {
		asRead(t, b)
		if left == 0 {
			return
		}
		for _, c := range signs {
			all(append(b, c), left-1)
		}
	}
	all(nil, 5)
	all([]byte{0, 0}, 4)
	all([]byte{0, 0, 0}, 6)
	all([]byte{0, 0, 0, 0, 0, 0}, 6)
	all(framed([]byte("a")), 4)
}

func TestEachLength(t *testing.T) {
	for n := range 1 << 16 {
		b := make([]byte, 8, 16)
		binary.BigEndian.PutUint32(b, uint32(n))
		asRead(t, b)
		binary.BigEndian.PutUint32(b, uint32(n)<<16)
		asRead(t, b)
	}
}

func TestDrawn(t *testing.T) {
	r := rand.New(rand.NewSource(7))
	for range 20000 {
		var b []byte
		for range r.Intn(5) {
			n := r.Intn(12)
			if r.Intn(20) == 0 {
				n = r.Intn(2 * api.MaxRecord)
			}
			b = append(b, framed(drawn(r, n))...)
		}
		b = append(b, drawn(r, r.Intn(3)*r.Intn(10))...)
		for range r.Intn(3) {
			if len(b) > 0 {
				b[r.Intn(len(b))] ^= 1 << r.Intn(8)
			}
		}
		if r.Intn(3) == 0 {
			b = b[:r.Intn(len(b)+1)]
		}
		asRead(t, b)
	}
}
