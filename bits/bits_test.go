package bits

import (
	"bytes"
	"encoding/binary"
	"math"
	"math/big"
	mathbits "math/bits"
	"math/rand"
	"strings"
	"testing"

	"chartulary/api"
)

// words are numbers at and beside each power of two, and some that a fixed seed gives.
func words() []uint64 {
	var list []uint64
	for i := range 64 {
		p := uint64(1) << i
		list = append(list, p-1, p, p+1, -p, ^p)
	}
	r := rand.New(rand.NewSource(1))
	for i := range 200 {
		list = append(list, r.Uint64()>>(i%64))
	}
	return append(list, math.MaxUint64)
}

// ints are sizes and places in and around a word, and the ends.
func ints() []int {
	list := []int{math.MinInt, math.MinInt + 1, math.MinInt32, math.MaxInt32, math.MaxInt - 1, math.MaxInt, -128, -65, -64, 127, 128, 256}
	for i := -33; i <= 97; i++ {
		list = append(list, i)
	}
	return list
}

// ofBits: the number whose bits a function tells, 0 the lowest.
func ofBits(size int, bit func(i int) bool) uint64 {
	var n uint64
	for i := range size {
		if bit(i) {
			n |= 1 << i
		}
	}
	return n
}

// P1.1

func TestPut(t *testing.T) {
	for _, c := range []struct {
		n    uint64
		size int
		want string
		e    api.Errno
	}{
		{0, 1, "\x00", api.OK},
		{255, 1, "\xff", api.OK},
		{256, 1, "", api.ErrRange},
		{256, 2, "\x01\x00", api.OK},
		{0x010203, 3, "\x01\x02\x03", api.OK},
		{0x010203, 5, "\x00\x00\x01\x02\x03", api.OK},
		{1<<56 - 1, 7, strings.Repeat("\xff", 7), api.OK},
		{1 << 56, 7, "", api.ErrRange},
		{1 << 56, 8, "\x01\x00\x00\x00\x00\x00\x00\x00", api.OK},
		{math.MaxUint64, 8, strings.Repeat("\xff", 8), api.OK},
		{0, 0, "", api.ErrArg},
		{0, -1, "", api.ErrArg},
		{0, 9, "", api.ErrArg},
		{0, math.MaxInt, "", api.ErrArg},
		{0, math.MinInt, "", api.ErrArg},
		{math.MaxUint64, 0, "", api.ErrArg},
		{math.MaxUint64, 9, "", api.ErrArg},
	} {
		if b, e := Put(c.n, c.size); string(b) != c.want || e != c.e {
			t.Errorf("Put(%d, %d): %x, %d", c.n, c.size, b, e)
		}
	}
}

func TestPutOfAnySize(t *testing.T) {
	for _, n := range words() {
		var whole [8]byte
		binary.BigEndian.PutUint64(whole[:], n)
		for _, size := range ints() {
			b, e := Put(n, size)
			var want []byte
			wantE := api.ErrArg
			if size >= 1 && size <= 8 {
				want, wantE = whole[8-size:], api.OK
				if mathbits.Len64(n) > 8*size {
					want, wantE = nil, api.ErrRange
				}
			}
			if !bytes.Equal(b, want) || e != wantE {
				t.Fatalf("Put(%d, %d): %x, %d", n, size, b, e)
			}
			if e != api.OK {
				continue
			}
			if back, e := Get(b); back != n || e != api.OK {
				t.Fatalf("Get(%x): %d, %d", b, back, e)
			}
		}
	}
}

func TestGet(t *testing.T) {
	for _, c := range []struct {
		b    string
		want uint64
		e    api.Errno
	}{
		{"", 0, api.ErrArg},
		{"\x00", 0, api.OK},
		{"\x80", 128, api.OK},
		{"\x01\x02", 258, api.OK},
		{"\x00\x00\x00\x01\x00", 256, api.OK},
		{"\x01\x02\x03\x04\x05\x06\x07\x08", 0x0102030405060708, api.OK},
		{strings.Repeat("\xff", 8), math.MaxUint64, api.OK},
		{strings.Repeat("\x00", 9), 0, api.ErrArg},
		{strings.Repeat("\xff", 300), 0, api.ErrArg},
	} {
		if n, e := Get([]byte(c.b)); n != c.want || e != c.e {
			t.Errorf("Get(%x): %d, %d", c.b, n, e)
		}
	}
}

func TestPack(t *testing.T) {
	for _, c := range []struct {
		n    uint64
		want string
	}{
		{0, "\x00"},
		{1, "\x01"},
		{127, "\x7f"},
		{128, "\x80\x01"},
		{300, "\xac\x02"},
		{1<<14 - 1, "\xff\x7f"},
		{1 << 14, "\x80\x80\x01"},
		{1<<63 - 1, strings.Repeat("\xff", 8) + "\x7f"},
		{1 << 63, strings.Repeat("\x80", 9) + "\x01"},
		{math.MaxUint64, strings.Repeat("\xff", 9) + "\x01"},
	} {
		if b := Pack(c.n); string(b) != c.want {
			t.Errorf("Pack(%d): %x", c.n, b)
		}
	}
	for _, n := range words() {
		if b := Pack(n); !bytes.Equal(b, binary.AppendUvarint(nil, n)) {
			t.Errorf("Pack(%d): %x", n, b)
		}
	}
}

func TestUnpack(t *testing.T) {
	for _, c := range []struct {
		b    string
		n    uint64
		used int
		e    api.Errno
	}{
		{"\x00", 0, 1, api.OK},
		{"\x00\x80", 0, 1, api.OK},
		{"\x7f\xff\xff", 127, 1, api.OK},
		{"\xac\x02\x00", 300, 2, api.OK},
		{"\x80\x80\x01", 1 << 14, 3, api.OK},
		{"", 0, 0, api.ErrShort},
		{"\xff", 0, 0, api.ErrShort},
		{strings.Repeat("\x80", 9), 0, 0, api.ErrShort},
		{strings.Repeat("\xff", 9), 0, 0, api.ErrShort},
		{strings.Repeat("\x80", 9) + "\x01", 1 << 63, 10, api.OK},
		{strings.Repeat("\xff", 9) + "\x01\x05", math.MaxUint64, 10, api.OK},
		{strings.Repeat("\x80", 9) + "\x00", 0, 0, api.ErrForm},
		{strings.Repeat("\x80", 9) + "\x02", 0, 0, api.ErrForm},
		{strings.Repeat("\x80", 9) + "\x03", 0, 0, api.ErrForm},
		{strings.Repeat("\x80", 9) + "\x7f", 0, 0, api.ErrForm},
		{strings.Repeat("\x80", 10), 0, 0, api.ErrForm},
		{strings.Repeat("\x80", 9) + "\x81", 0, 0, api.ErrForm},
		{strings.Repeat("\xff", 10) + "\x00", 0, 0, api.ErrForm},
		{strings.Repeat("\x80", 300), 0, 0, api.ErrForm},
		{"\x80\x00", 0, 0, api.ErrForm},
		{"\xff\x00", 0, 0, api.ErrForm},
		{"\xff\x80\x00\x01", 0, 0, api.ErrForm},
	} {
		if n, used, e := Unpack([]byte(c.b)); n != c.n || used != c.used || e != c.e {
			t.Errorf("Unpack(%x): %d, %d, %d", c.b, n, used, e)
		}
	}
}

func TestUnpackOfWhatIsPacked(t *testing.T) {
	for _, n := range words() {
		b := Pack(n)
		for _, behind := range []string{"", "\x00", "\xff\xff"} {
			if back, used, e := Unpack(append(Pack(n), behind...)); back != n || used != len(b) || e != api.OK {
				t.Fatalf("Unpack(%x and %x): %d, %d, %d", b, behind, back, used, e)
			}
		}
		for i := range b {
			if back, used, e := Unpack(b[:i]); back != 0 || used != 0 || e != api.ErrShort {
				t.Fatalf("Unpack(%x): %d, %d, %d", b[:i], back, used, e)
			}
		}
		if len(b) < mostPacked {
			b[len(b)-1] |= 0x80
			b = append(b, 0)
			if back, used, e := Unpack(b); back != 0 || used != 0 || e != api.ErrForm {
				t.Fatalf("Unpack(%x): %d, %d, %d", b, back, used, e)
			}
		}
	}
}

// P1.2

func TestZigZag(t *testing.T) {
	for u, n := range []int64{0, -1, 1, -2, 2, -3, 3} {
		if Zig(n) != uint64(u) || Zag(uint64(u)) != n {
			t.Errorf("%d: Zig %d, Zag %d", n, Zig(n), Zag(uint64(u)))
		}
	}
	for _, u := range words() {
		n := int64(u / 2)
		if u%2 == 1 {
			n = -n - 1
		}
		if Zag(u) != n || Zig(n) != u {
			t.Errorf("%d: Zag %d, Zig %d", u, Zag(u), Zig(n))
		}
	}
	if Zig(math.MinInt64) != math.MaxUint64 || Zag(math.MaxUint64) != math.MinInt64 {
		t.Error("the least number")
	}
	if Zig(math.MaxInt64) != math.MaxUint64-1 || Zag(math.MaxUint64-1) != math.MaxInt64 {
		t.Error("the greatest number")
	}
}

// fits tells by other means than the program which places and widths are right.
func fits(at, width int) bool {
	return min(at, width) >= 0 && max(at, width) <= 64 && 64-at >= width
}

func TestField(t *testing.T) {
	for _, c := range []struct {
		w         uint64
		at, width int
		want      uint64
		e         api.Errno
	}{
		{0xABCD, 4, 8, 0xBC, api.OK},
		{0xABCD, 0, 4, 0xD, api.OK},
		{0xABCD, 12, 4, 0xA, api.OK},
		{math.MaxUint64, 0, 64, math.MaxUint64, api.OK},
		{math.MaxUint64, 1, 63, math.MaxUint64 >> 1, api.OK},
		{math.MaxUint64, 63, 1, 1, api.OK},
		{math.MaxUint64, 5, 0, 0, api.OK},
		{math.MaxUint64, 64, 0, 0, api.OK},
		{math.MaxUint64, 64, 1, 0, api.ErrArg},
		{math.MaxUint64, 1, 64, 0, api.ErrArg},
		{math.MaxUint64, 65, 0, 0, api.ErrArg},
		{math.MaxUint64, 0, 65, 0, api.ErrArg},
		{math.MaxUint64, 65, -1, 0, api.ErrArg},
		{math.MaxUint64, -1, 65, 0, api.ErrArg},
		{math.MaxUint64, -1, 1, 0, api.ErrArg},
		{math.MaxUint64, 1, -1, 0, api.ErrArg},
		{math.MaxUint64, math.MaxInt, math.MaxInt, 0, api.ErrArg},
		{math.MaxUint64, math.MaxInt, 1, 0, api.ErrArg},
		{math.MaxUint64, math.MinInt, math.MinInt, 0, api.ErrArg},
	} {
		if n, e := Field(c.w, c.at, c.width); n != c.want || e != c.e {
			t.Errorf("Field(%x, %d, %d): %x, %d", c.w, c.at, c.width, n, e)
		}
	}
}

func TestFieldAtAnyPlace(t *testing.T) {
	for _, w := range []uint64{0, math.MaxUint64, 0x123456789ABCDEF0, 0x8000000000000001} {
		for _, at := range ints() {
			for _, width := range ints() {
				var want uint64
				wantE := api.ErrArg
				if fits(at, width) {
					want = ofBits(width, func(i int) bool { return w>>(at+i)&1 == 1 })
					wantE = api.OK
				}
				if n, e := Field(w, at, width); n != want || e != wantE {
					t.Fatalf("Field(%x, %d, %d): %x, %d", w, at, width, n, e)
				}
			}
		}
	}
}

func TestSet(t *testing.T) {
	for _, c := range []struct {
		w         uint64
		at, width int
		v, want   uint64
		e         api.Errno
	}{
		{0xABCD, 4, 8, 0x11, 0xA11D, api.OK},
		{0xABCD, 0, 16, 0, 0, api.OK},
		{0, 0, 64, math.MaxUint64, math.MaxUint64, api.OK},
		{math.MaxUint64, 0, 64, 5, 5, api.OK},
		{0, 63, 1, 1, 1 << 63, api.OK},
		{0xABCD, 64, 0, 0, 0xABCD, api.OK},
		{0xABCD, 8, 0, 0, 0xABCD, api.OK},
		{0xABCD, 8, 0, 1, 0, api.ErrRange},
		{0xABCD, 64, 0, 1, 0, api.ErrRange},
		{0, 4, 2, 3, 0x30, api.OK},
		{0, 4, 2, 4, 0, api.ErrRange},
		{0, 0, 63, 1 << 63, 0, api.ErrRange},
		{0, 60, 5, 0, 0, api.ErrArg},
		{1, 60, 5, math.MaxUint64, 0, api.ErrArg},
		{1, -1, 1, math.MaxUint64, 0, api.ErrArg},
		{1, 1, -1, math.MaxUint64, 0, api.ErrArg},
		{1, 65, 0, 1, 0, api.ErrArg},
		{1, 0, 65, 1, 0, api.ErrArg},
		{1, math.MaxInt, math.MaxInt, 1, 0, api.ErrArg},
		{1, math.MinInt, math.MinInt, 1, 0, api.ErrArg},
	} {
		if n, e := Set(c.w, c.at, c.width, c.v); n != c.want || e != c.e {
			t.Errorf("Set(%x, %d, %d, %x): %x, %d", c.w, c.at, c.width, c.v, n, e)
		}
	}
}

func TestSetAtAnyPlace(t *testing.T) {
	for _, w := range []uint64{0, math.MaxUint64, 0x123456789ABCDEF0} {
		for _, v := range []uint64{0, 1, 2, 5, 0xFFFF, 1 << 40, 0xF0F0F0F0F0F0F0F0, math.MaxUint64} {
			for _, at := range ints() {
				for _, width := range ints() {
					n, e := Set(w, at, width, v)
					if want, wantE := setBitByBit(w, at, width, v); n != want || e != wantE {
						t.Fatalf("Set(%x, %d, %d, %x): %x, %d", w, at, width, v, n, e)
					}
				}
			}
		}
	}
}

func setBitByBit(w uint64, at, width int, v uint64) (uint64, api.Errno) {
	if !fits(at, width) {
		return 0, api.ErrArg
	}
	if mathbits.Len64(v) > width {
		return 0, api.ErrRange
	}
	return ofBits(64, func(i int) bool {
		if i >= at && i < at+width {
			return v>>(i-at)&1 == 1
		}
		return w>>i&1 == 1
	}), api.OK
}

// P1.3

func TestTurn(t *testing.T) {
	for _, c := range []struct {
		w    uint32
		n    int
		want uint32
	}{
		{0x80000001, 1, 3},
		{3, -1, 0x80000001},
		{0x12345678, 0, 0x12345678},
		{0x12345678, 4, 0x23456781},
		{0x12345678, -4, 0x81234567},
		{0x12345678, 31, 0x091A2B3C},
		{0x12345678, 32, 0x12345678},
		{0x12345678, -32, 0x12345678},
		{0x12345678, 36, 0x23456781},
		{0x12345678, -36, 0x81234567},
		{0x12345678, math.MinInt, 0x12345678},
		{0x12345678, math.MinInt + 4, 0x23456781},
		{0x12345678, math.MaxInt, 0x091A2B3C},
	} {
		if w := Turn(c.w, c.n); w != c.want {
			t.Errorf("Turn(%x, %d): %x", c.w, c.n, w)
		}
	}
	for _, w := range words() {
		for _, n := range ints() {
			if got := Turn(uint32(w), n); got != mathbits.RotateLeft32(uint32(w), n%32) {
				t.Fatalf("Turn(%x, %d): %x", uint32(w), n, got)
			}
		}
	}
}

func TestSwap(t *testing.T) {
	if Swap(0) != 0 || Swap(math.MaxUint32) != math.MaxUint32 || Swap(0x12345678) != 0x1E6A2C48 {
		t.Error("Swap")
	}
	for i := range 32 {
		if w := Swap(1 << i); w != 1<<(31-i) {
			t.Errorf("Swap of bit %d: %x", i, w)
		}
	}
	for _, n := range words() {
		w := uint32(n)
		if Swap(w) != mathbits.Reverse32(w) {
			t.Errorf("Swap(%x): %x", w, Swap(w))
		}
	}
}

func TestOnes(t *testing.T) {
	if Ones(0) != 0 || Ones(1<<63) != 1 || Ones(0xF0F) != 8 || Ones(math.MaxUint64) != 64 {
		t.Error("Ones")
	}
	for _, w := range words() {
		if Ones(w) != mathbits.OnesCount64(w) {
			t.Errorf("Ones(%x): %d", w, Ones(w))
		}
	}
}

// nearest: the number of 64 bits with a sign that is nearest to any number.
func nearest(n *big.Int) int64 {
	if n.IsInt64() {
		return n.Int64()
	}
	if n.Sign() < 0 {
		return math.MinInt64
	}
	return math.MaxInt64
}

func TestAddMul(t *testing.T) {
	for _, c := range []struct{ a, b, sum, product int64 }{
		{0, 0, 0, 0},
		{-3, 5, 2, -15},
		{math.MaxInt64, 0, math.MaxInt64, 0},
		{math.MaxInt64, 1, math.MaxInt64, math.MaxInt64},
		{math.MaxInt64, -1, math.MaxInt64 - 1, -math.MaxInt64},
		{math.MinInt64, 0, math.MinInt64, 0},
		{math.MinInt64, 1, math.MinInt64 + 1, math.MinInt64},
		{math.MinInt64, -1, math.MinInt64, math.MaxInt64},
		{math.MinInt64, 2, math.MinInt64 + 2, math.MinInt64},
		{math.MinInt64, math.MinInt64, math.MinInt64, math.MaxInt64},
		{math.MinInt64, math.MaxInt64, -1, math.MinInt64},
		{math.MaxInt64, math.MaxInt64, math.MaxInt64, math.MaxInt64},
		{1 << 62, -2, 1<<62 - 2, math.MinInt64},
		{1 << 62, 2, 1<<62 + 2, math.MaxInt64},
		{1 << 40, 1 << 40, 1 << 41, math.MaxInt64},
		{1 << 40, -1 << 40, 0, math.MinInt64},
	} {
		if n := Add(c.a, c.b); n != c.sum || Add(c.b, c.a) != n {
			t.Errorf("Add(%d, %d): %d", c.a, c.b, n)
		}
		if n := Mul(c.a, c.b); n != c.product || Mul(c.b, c.a) != n {
			t.Errorf("Mul(%d, %d): %d", c.a, c.b, n)
		}
	}
}

func TestAddMulOfMany(t *testing.T) {
	list := words()
	for _, u := range list {
		for _, v := range list {
			a, b := int64(u), int64(v)
			x, y := big.NewInt(a), big.NewInt(b)
			if want := nearest(new(big.Int).Add(x, y)); Add(a, b) != want {
				t.Fatalf("Add(%d, %d): %d", a, b, Add(a, b))
			}
			if want := nearest(new(big.Int).Mul(x, y)); Mul(a, b) != want {
				t.Fatalf("Mul(%d, %d): %d", a, b, Mul(a, b))
			}
		}
	}
}

// P1, R4

func TestMemory(t *testing.T) {
	room := []byte{0x80, 0x80, 0x01, 7, 8, 9, 10, 11, 12, 13, 14, 15}
	before := bytes.Clone(room)
	Get(room[:3:6])
	Get(room)
	Unpack(room[:3])
	Unpack(room[:2])
	Unpack(nil)
	if !bytes.Equal(room, before) {
		t.Errorf("what was handed in is %x", room)
	}
	a, _ := Put(258, 2)
	b, _ := Put(258, 2)
	c, d := Pack(300), Pack(300)
	for _, list := range [][]byte{a, c} {
		whole := list[:cap(list)]
		for i := range whole {
			whole[i] = 0xEE
		}
	}
	if !bytes.Equal(b, []byte{1, 2}) || !bytes.Equal(d, []byte{0xAC, 2}) {
		t.Errorf("answers share memory: %x, %x", b, d)
	}
	if b, _ := Put(258, 2); !bytes.Equal(b, []byte{1, 2}) {
		t.Errorf("a later answer: %x", b)
	}
	if d := Pack(300); !bytes.Equal(d, []byte{0xAC, 2}) {
		t.Errorf("a later answer: %x", d)
	}
}
