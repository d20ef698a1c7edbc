package sha

import (
	"bytes"
	"crypto/sha256"
	"encoding/hex"
	"math/big"
	"math/rand"
	"slices"
	"strings"
	"testing"

	"chartulary/api"
)

func noise(r *rand.Rand, n int) []byte {
	b := make([]byte, n)
	r.Read(b)
	return b
}

// P3.1: known digests, the chapter's example among them.
func TestKnown(t *testing.T) {
	for _, c := range []struct{ text, want string }{
		{"", "e3b0c44298fc1c149afbf4c8996fb92427ae41e4649b934ca495991b7852b855"},
		{"abc", "ba7816bf8f01cfea414140de5dae2223b00361a396177a9cb410ff61f20015ad"},
		{"abcdbcdecdefdefgefghfghighijhijkijkljklmklmnlmnomnopnopq", "248d6a61d20638b8e5c026930c3e6039a33ce45964ff2167f6ecedd419db06c1"},
		{strings.Repeat("a", 1000000), "cdc76e5c9914fb9281a1c7e284d73e67f1809a48a497200e046d39ccc7112cd0"},
	} {
		d := Sum([]byte(c.text))
		if got := hex.EncodeToString(d[:]); got != c.want {
			t.Errorf("Sum of %d bytes: %s, not %s", len(c.text), got, c.want)
		}
	}
	if d := Sum([]byte("abc")); !bytes.Equal(d[:4], []byte{186, 120, 22, 191}) {
		t.Errorf("Sum of abc begins with %v", d[:4])
	}
}

// root: the first 32 bits behind the point of the n-th root of p.
func root(p, n int64) uint32 {
	under := new(big.Int).Lsh(big.NewInt(p), uint(32*n))
	low, high := big.NewInt(0), new(big.Int).Lsh(big.NewInt(1), 64)
	for new(big.Int).Sub(high, low).Cmp(big.NewInt(1)) > 0 {
		middle := new(big.Int).Rsh(new(big.Int).Add(low, high), 1)
		if new(big.Int).Exp(middle, big.NewInt(n), nil).Cmp(under) <= 0 {
			low = middle
		} else {
			high = middle
		}
	}
	return uint32(low.Uint64())
}

// P3.1: what the standard says of its words: they come of roots of primes.
func TestTables(t *testing.T) {
	var primes []int64
	for n := int64(2); len(primes) < len(factors); n++ {
		if big.NewInt(n).ProbablyPrime(0) {
			primes = append(primes, n)
		}
	}
	for i, word := range start() {
		if word != root(primes[i], 2) {
			t.Errorf("word %d of nothing: %08X", i, word)
		}
	}
	for i, word := range factors {
		if word != root(primes[i], 3) {
			t.Errorf("factor %d: %08X", i, word)
		}
	}
}

// P3.1: all lengths round the edges of blocks, and some long ones, by the library's own digests.
func TestLengths(t *testing.T) {
	r := rand.New(rand.NewSource(1))
	lengths := []int{1000, 4095, 4096, 4097, 65536}
	for n := range 300 {
		lengths = append(lengths, n)
	}
	for _, n := range lengths {
		b := noise(r, n)
		if Sum(b) != sha256.Sum256(b) {
			t.Errorf("Sum of %d bytes: %x", n, Sum(b))
		}
		h := New()
		h.Write(b)
		if h.Sum() != sha256.Sum256(b) || h.Len() != n {
			t.Errorf("Hash of %d bytes: %x, %d", n, h.Sum(), h.Len())
		}
	}
}

// P3.1: parts are one behind the other; nothing at all, in whatever form, is nothing.
func TestParts(t *testing.T) {
	nothing := api.Digest(sha256.Sum256(nil))
	for _, parts := range [][][]byte{nil, {}, {nil}, {{}}, {nil, {}, nil}} {
		if Sum(parts...) != nothing {
			t.Errorf("Sum of %v: %x", parts, Sum(parts...))
		}
	}
	b := noise(rand.New(rand.NewSource(2)), 200)
	want := api.Digest(sha256.Sum256(b))
	for i := range len(b) + 1 {
		if Sum(b[:i], b[i:]) != want {
			t.Errorf("Sum of two parts cut at %d", i)
		}
		for j := i; j <= len(b); j += 13 {
			if Sum(b[:i], nil, b[i:j], b[j:]) != want {
				t.Errorf("Sum of parts cut at %d and %d", i, j)
			}
		}
	}
	if Sum([]byte("a"), []byte("b")) == Sum([]byte("b"), []byte("a")) {
		t.Error("Sum heeds no order")
	}
}

// P3.1: a Hash of nothing.
func TestNew(t *testing.T) {
	h := New()
	if h == nil {
		t.Fatal("New: nil")
	}
	if h.Sum() != sha256.Sum256(nil) || h.Len() != 0 {
		t.Errorf("New: %x, %d", h.Sum(), h.Len())
	}
	h.Write(nil)
	h.Write([]byte{})
	if h.Sum() != sha256.Sum256(nil) || h.Len() != 0 {
		t.Errorf("nothing written: %x, %d", h.Sum(), h.Len())
	}
}

// P3.1: texts cut anywhere, with a Sum behind each piece or not; Sum changes nothing.
func TestWrite(t *testing.T) {
	r := rand.New(rand.NewSource(3))
	for range 300 {
		b := noise(r, r.Intn(400))
		often, once := New(), New()
		for at := 0; at < len(b); {
			next := min(len(b), at+r.Intn(150))
			often.Write(b[at:next])
			once.Write(b[at:next])
			at = next
			if often.Sum() != sha256.Sum256(b[:at]) || often.Sum() != often.Sum() || often.Len() != at {
				t.Fatalf("Hash of %d bytes: %x, %d", at, often.Sum(), often.Len())
			}
		}
		if once.Sum() != sha256.Sum256(b) || once.Len() != len(b) {
			t.Fatalf("Hash of %d bytes: %x, %d", len(b), once.Sum(), once.Len())
		}
	}
}

// P3.1: byte by byte, over edges of blocks.
func TestBytes(t *testing.T) {
	b := noise(rand.New(rand.NewSource(4)), 260)
	h := New()
	for i := range b {
		h.Write(b[i : i+1])
		if h.Sum() != sha256.Sum256(b[:i+1]) || h.Len() != i+1 {
			t.Fatalf("behind byte %d: %x, %d", i, h.Sum(), h.Len())
		}
	}
}

// P3.1: a nil *Hash: nothing, a Digest of noughts, 0.
func TestNil(t *testing.T) {
	var h *Hash
	h.Write(nil)
	h.Write([]byte("abc"))
	if h.Sum() != (api.Digest{}) || h.Len() != 0 {
		t.Errorf("nil: %x, %d", h.Sum(), h.Len())
	}
}

// R1: a Hash that New did not make is of nothing, too.
func TestZero(t *testing.T) {
	var h Hash
	if h.Sum() != sha256.Sum256(nil) || h.Len() != 0 {
		t.Errorf("zero: %x, %d", h.Sum(), h.Len())
	}
	h.Write([]byte("abc"))
	if h.Sum() != sha256.Sum256([]byte("abc")) || h.Len() != 3 {
		t.Errorf("zero, then abc: %x, %d", h.Sum(), h.Len())
	}
}

// R4: what is handed in stays as it is, with its spare room, and is not kept.
func TestMemory(t *testing.T) {
	for _, n := range []int{0, 1, 55, 63, 64, 65, 130} {
		room := noise(rand.New(rand.NewSource(5)), 300)
		was := slices.Clone(room)
		b := room[:n]
		h := New()
		h.Write(b)
		h.Write(b)
		h.Sum()
		Sum(b, b)
		if !bytes.Equal(room, was) {
			t.Errorf("%d bytes: what was handed in has changed", n)
		}
		clear(room)
		if h.Sum() != sha256.Sum256(slices.Concat(was[:n], was[:n])) {
			t.Errorf("%d bytes: what was handed in is kept", n)
		}
	}
}

// R5: two that are in the making have nothing in common, even if one began as the other.
func TestApart(t *testing.T) {
	a, b := New(), New()
	a.Write([]byte("one"))
	b.Write([]byte("two"))
	c := *a
	c.Write([]byte("!"))
	a.Write([]byte("?"))
	for _, x := range []struct {
		h    *Hash
		text string
	}{{a, "one?"}, {b, "two"}, {&c, "one!"}} {
		if x.h.Sum() != sha256.Sum256([]byte(x.text)) || x.h.Len() != len(x.text) {
			t.Errorf("Hash of %q: %x, %d", x.text, x.h.Sum(), x.h.Len())
		}
	}
}

// R5: of what was written less than a block is kept, not the memory of all.
func TestKept(t *testing.T) {
	h := New()
	h.Write(make([]byte, 1<<16+1))
	if len(h.rest) != 1 || cap(h.rest) > blockSize {
		t.Errorf("kept: %d bytes in room for %d", len(h.rest), cap(h.rest))
	}
}
