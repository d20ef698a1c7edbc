package crc

import (
	"bytes"
	"hash/crc32"
	"math"
	"math/rand"
	"testing"

	"chartulary/api"
)

var castagnoli = crc32.MakeTable(crc32.Castagnoli)

func noise(r *rand.Rand, n int) []byte {
	b := make([]byte, n)
	r.Read(b)
	return b
}

// byBits sums bytes up as the chapter's first lines say it, bit by bit.
func byBits(b []byte) uint32 {
	register := ^uint32(0)
	for _, c := range b {
		for bit := range 8 {
			out := register&1 != uint32(c>>bit&1)
			register >>= 1
			if out {
				register ^= api.Polynomial
			}
		}
	}
	return ^register
}

// P2.1: known sums, and those of each length and each byte, told in two other ways.
func TestSum(t *testing.T) {
	for _, c := range []struct {
		text string
		want uint32
	}{
		{"", 0},
		{"a", 0xC1D04330},
		{"123456789", 0xE3069283},
		{string(make([]byte, 32)), 0x8A9136AA},
		{string(bytes.Repeat([]byte{0xFF}, 32)), 0x62A8AB43},
	} {
		if got := Sum([]byte(c.text)); got != c.want {
			t.Errorf("Sum(%q): %08X, not %08X", c.text, got, c.want)
		}
	}
	for c := range 256 {
		b := []byte{byte(c)}
		if Sum(b) != byBits(b) {
			t.Errorf("Sum of the byte %d: %08X", c, Sum(b))
		}
	}
	r := rand.New(rand.NewSource(1))
	for n := range 300 {
		b := noise(r, n)
		if got, want := Sum(b), crc32.Checksum(b, castagnoli); got != want || got != byBits(b) {
			t.Errorf("Sum of %d bytes: %08X, not %08X", n, got, want)
		}
	}
}

// P2.1: nothing at all, in each way in which there may be nothing.
func TestSumOfNothing(t *testing.T) {
	if Sum() != 0 || Sum(nil) != 0 || Sum([]byte{}) != 0 || Sum(nil, []byte{}, nil) != 0 {
		t.Error("the sum of nothing is 0")
	}
	var none [][]byte
	if Sum(none...) != 0 {
		t.Error("the sum of no parts is 0")
	}
}

// P2.1: wherever a text is cut, the sum is that of the whole.
func TestSumOfParts(t *testing.T) {
	b := noise(rand.New(rand.NewSource(2)), 40)
	whole := crc32.Checksum(b, castagnoli)
	for i := range len(b) + 1 {
		for j := i; j <= len(b); j++ {
			if Sum(b[:i], b[i:j], nil, b[j:]) != whole {
				t.Fatalf("cut at %d and %d", i, j)
			}
		}
	}
	single := make([][]byte, len(b))
	for i := range b {
		single[i] = b[i : i+1]
	}
	if Sum(single...) != whole {
		t.Error("each byte a part")
	}
	if Sum(b[20:], b[:20]) == whole {
		t.Error("the order of parts counts")
	}
}

// P2.1: More goes on from any sum, and stays there with nothing behind.
func TestMore(t *testing.T) {
	r := rand.New(rand.NewSource(3))
	for range 200 {
		sum, b := r.Uint32(), noise(r, r.Intn(50))
		if got, want := More(sum, b), crc32.Update(sum, castagnoli, b); got != want {
			t.Errorf("More(%08X, %x): %08X, not %08X", sum, b, got, want)
		}
	}
	for _, sum := range []uint32{0, 1, 1 << 31, math.MaxUint32} {
		if More(sum, nil) != sum || More(sum, []byte{}) != sum {
			t.Errorf("More(%08X) of nothing", sum)
		}
	}
	a, b := []byte("some"), []byte("thing")
	if More(Sum(a), b) != Sum([]byte("something")) {
		t.Error("More of a text's sum")
	}
}

// R4: what is handed in stays as it was, spare room included.
func TestArgumentsStay(t *testing.T) {
	room := []byte("123456789 and more")
	parts := [][]byte{room[:4], room[4:9]}
	Sum(parts...)
	More(7, room[:9])
	if string(room) != "123456789 and more" || string(parts[0]) != "1234" || string(parts[1]) != "56789" {
		t.Errorf("changed: %q %q", room, parts)
	}
}

// P2.2: Zeros is More of bytes 0, for every small count and some greater ones.
func TestZeros(t *testing.T) {
	counts := []int{1000, 4095, 4096, 4097, 65535, 65536, 1<<20 - 1, 1 << 20}
	for n := range 130 {
		counts = append(counts, n)
	}
	for _, n := range counts {
		zeros := make([]byte, n)
		for _, sum := range []uint32{0, 1, 0x12345678, 1 << 31, math.MaxUint32} {
			if got, want := Zeros(sum, n), crc32.Update(sum, castagnoli, zeros); got != want {
				t.Errorf("Zeros(%08X, %d): %08X, not %08X", sum, n, got, want)
			}
		}
	}
}

// P2.2: below 0 counts as 0.
func TestZerosBelow(t *testing.T) {
	for _, n := range []int{0, -1, -5, -8, math.MinInt32, math.MinInt} {
		for _, sum := range []uint32{0, 7, math.MaxUint32} {
			if got := Zeros(sum, n); got != sum {
				t.Errorf("Zeros(%08X, %d): %08X", sum, n, got)
			}
		}
	}
}

// P2.2: counts so great that nobody could go through them byte by byte. A register comes back behind 2^31 - 1 bits, and so behind so many bytes, as the polynomial has the factor x + 1 and one of power 31.
func TestZerosGreat(t *testing.T) {
	const round = math.MaxInt32
	for _, sum := range []uint32{0, 9, 0xDEADBEEF, math.MaxUint32} {
		for _, n := range []int{round, round * 2, round * (1 << 31), math.MaxInt, math.MaxInt - 1, 1 << 62, 1<<62 + 5} {
			if got, want := Zeros(sum, n), Zeros(sum, n%round); got != want {
				t.Errorf("Zeros(%08X, %d): %08X, not %08X", sum, n, got, want)
			}
		}
		if Zeros(Zeros(sum, 1<<40), 1<<40) != Zeros(sum, 1<<41) {
			t.Errorf("Zeros(%08X) by halves", sum)
		}
		if Zeros(Zeros(sum, 1<<62-1), 1<<62) != Zeros(sum, math.MaxInt) {
			t.Errorf("Zeros(%08X) of the greatest count by halves", sum)
		}
	}
}

// P2.2: Join of two sums is the sum of both texts, wherever they are cut.
func TestJoin(t *testing.T) {
	r := rand.New(rand.NewSource(4))
	b := noise(r, 300)
	whole := crc32.Checksum(b, castagnoli)
	for i := range len(b) + 1 {
		if got := Join(Sum(b[:i]), Sum(b[i:]), len(b)-i); got != whole {
			t.Errorf("Join at %d: %08X, not %08X", i, got, whole)
		}
	}
	long := noise(r, 70000)
	if Join(Sum(b), Sum(long), len(long)) != Sum(b, long) || Join(Sum(long), Sum(b), len(b)) != Sum(long, b) {
		t.Error("Join of a long text and a short one")
	}
}

// P2.2: with nothing behind, or nothing ahead, and with counts below 0 and very great ones.
func TestJoinEdges(t *testing.T) {
	a := Sum([]byte("some"))
	for _, n := range []int{0, -1, -5, math.MinInt} {
		if Join(a, 0, n) != a {
			t.Errorf("Join with nothing behind, n %d: %08X", n, Join(a, 0, n))
		}
		if Join(a, 0x55AA, n) != Join(a, 0x55AA, 0) {
			t.Errorf("n %d counts as 0", n)
		}
	}
	for _, n := range []int{0, 5, 1 << 40, math.MaxInt} {
		if Join(0, a, n) != a {
			t.Errorf("Join with nothing ahead, n %d: %08X", n, Join(0, a, n))
		}
		if Join(a, Zeros(0, n), n) != Zeros(a, n) {
			t.Errorf("Join with %d bytes 0 behind: %08X", n, Join(a, Zeros(0, n), n))
		}
	}
}

// What follows: each burst of up to 32 bits in a row changes the sum.
func TestBursts(t *testing.T) {
	r := rand.New(rand.NewSource(5))
	b := noise(r, 20)
	whole := Sum(b)
	for at := range len(b)*8 - 31 {
		for range 50 {
			burst := r.Uint32() >> r.Intn(32)
			if burst == 0 {
				continue
			}
			turned := bytes.Clone(b)
			for i := range 32 {
				turned[(at+i)/8] ^= byte(burst>>i&1) << ((at + i) % 8)
			}
			if Sum(turned) == whole {
				t.Errorf("the burst %08X at bit %d is not found", burst, at)
			}
		}
	}
}

// The table of four bits at once is what single bits do.
func TestHalves(t *testing.T) {
	for i, got := range halves {
		want := uint32(i)
		for range 4 {
			want = want>>1 ^ api.Polynomial*(want&1)
		}
		if got != want {
			t.Errorf("halves[%d]: %08X, not %08X", i, got, want)
		}
	}
}
