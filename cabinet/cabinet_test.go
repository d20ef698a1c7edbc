package cabinet

import (
	"bytes"
	"fmt"
	"maps"
	"math"
	"math/rand"
	"slices"
	"strings"
	"testing"

	"chartulary/api"
)

// Calls: the changes first, in the order of the chapter.
const (
	callCreate = iota
	callAppend
	callSync
	callRename
	callRemove
	callTurn
	callFail
	callCrash
)

// call is a call of a Cabinet that may change it; n is after, or names.
type call struct {
	kind      int
	name, new string
	data      string
	n         int
	keep      []int
	turn      uint8
}

func creating(name string) call        { return call{kind: callCreate, name: name} }
func appending(name, data string) call { return call{kind: callAppend, name: name, data: data} }
func syncing(name string) call         { return call{kind: callSync, name: name} }
func renaming(old, name string) call   { return call{kind: callRename, name: old, new: name} }
func removing(name string) call        { return call{kind: callRemove, name: name} }
func turning() call                    { return call{kind: callTurn} }
func failing(after int) call           { return call{kind: callFail, n: after} }
func crashing(names int, keep []int, turn uint8) call {
	return call{kind: callCrash, n: names, keep: keep, turn: turn}
}

// on: the call is done; of those that answer nothing OK is answered.
func (x call) on(c *Cabinet) api.Errno {
	switch x.kind {
	case callCreate:
		return c.Create(x.name)
	case callAppend:
		return c.Append(x.name, []byte(x.data))
	case callSync:
		return c.Sync(x.name)
	case callRename:
		return c.Rename(x.name, x.new)
	case callRemove:
		return c.Remove(x.name)
	case callTurn:
		return c.Turn()
	case callFail:
		c.Fail(x.n)
	case callCrash:
		c.Crash(x.n, x.keep, x.turn)
	}
	return api.OK
}

// book is a second reading of the chapter: bytes of all files that there ever were, and all names, as they were at the last Turn and behind each Create, Rename and Remove since.
type book struct {
	quota  int
	data   []string
	synced []string
	pages  []map[string]int
	after  int
	down   bool
}

func newBook(quota int) *book {
	return &book{quota: quota, pages: []map[string]int{{}}, after: -1}
}

func (b *book) now() map[string]int { return b.pages[len(b.pages)-1] }

// used: the bytes of each file that has a name on a page.
func (b *book) used() int {
	sum := 0
	for file, data := range b.data {
		for _, page := range b.pages {
			if slices.Contains(slices.Collect(maps.Values(page)), file) {
				sum += len(data)
				break
			}
		}
	}
	return sum
}

const nameSigns = "abcdefghijklmnopqrstuvwxyz0123456789-."

// isWordName: the section Words of a name.
func isWordName(s string) bool {
	return len(s) >= 1 && len(s) <= 32 && strings.Trim(s, nameSigns) == ""
}

// refused: what is wrong with a change while there is power.
func (b *book) refused(x call) api.Errno {
	file, there := b.now()[x.name]
	if x.kind == callCreate {
		switch {
		case !isWordName(x.name):
			return api.ErrName
		case there:
			return api.ErrThere
		case len(b.now()) == 4096:
			return api.ErrFull
		}
		return api.OK
	}
	switch {
	case x.kind != callTurn && !there:
		return api.ErrNone
	case x.kind == callRename && !isWordName(x.new):
		return api.ErrName
	case x.kind == callAppend && len(b.data[file])+len(x.data) > 1<<20:
		return api.ErrLarge
	case x.kind == callAppend && b.used()+len(x.data) > b.quota:
		return api.ErrSpace
	}
	return api.OK
}

// change: a change that nothing refuses is done.
func (b *book) change(x call) {
	file := b.now()[x.name]
	page := maps.Clone(b.now())
	switch x.kind {
	case callCreate:
		page[x.name] = len(b.data)
		b.data, b.synced = append(b.data, ""), append(b.synced, "")
		b.pages = append(b.pages, page)
	case callAppend:
		b.data[file] += x.data
	case callSync:
		b.synced[file] = b.data[file]
	case callRename:
		if x.name != x.new {
			page[x.new] = file
			delete(page, x.name)
		}
		b.pages = append(b.pages, page)
	case callRemove:
		delete(page, x.name)
		b.pages = append(b.pages, page)
	case callTurn:
		b.pages = []map[string]int{page}
	}
}

// crash: P9.2 of Crash.
func (b *book) crash(names int, keep []int, turn uint8) {
	page := b.pages[min(max(names, 0), len(b.pages)-1)]
	b.pages = []map[string]int{page}
	for i, name := range slices.Sorted(maps.Keys(page)) {
		file := page[name]
		last := b.synced[file]
		since := b.data[file][len(last):]
		for n := range len(since) {
			if i < len(keep) && n < keep[i] {
				last += since[n : n+1]
				continue
			}
			if turn != 0 {
				last += string([]byte{since[n] ^ turn})
			}
			break
		}
		b.data[file], b.synced[file] = last, last
	}
	b.after, b.down = -1, false
}

// do: what call.on does, by the book.
func (b *book) do(x call) api.Errno {
	switch {
	case x.kind == callFail:
		b.after = x.n
		return api.OK
	case x.kind == callCrash:
		b.crash(x.n, x.keep, x.turn)
		return api.OK
	case b.down:
		return api.ErrDown
	}
	if e := b.refused(x); e != api.OK {
		return e
	}
	if b.after == 0 {
		b.down = true
		return api.ErrDown
	}
	if b.after > 0 {
		b.after--
	}
	b.change(x)
	return api.OK
}

// differs: what a Cabinet shows otherwise than the book, empty if it is nothing.
func (b *book) differs(c *Cabinet, asked []string) string {
	if used, quota := c.Used(); used != b.used() || quota != b.quota {
		return fmt.Sprintf("Used: %d, %d, not %d, %d", used, quota, b.used(), b.quota)
	}
	names, e := c.Names()
	if b.down && (e != api.ErrDown || names != nil) || !b.down && (e != api.OK || !slices.Equal(names, slices.Sorted(maps.Keys(b.now())))) {
		return fmt.Sprintf("Names: %q, %d, not those of %v", names, e, b.now())
	}
	for _, name := range asked {
		want, wantE := "", api.OK
		if file, there := b.now()[name]; b.down {
			wantE = api.ErrDown
		} else if there {
			want = b.data[file]
		} else {
			wantE = api.ErrNone
		}
		if got, e := c.Read(name); string(got) != want || e != wantE || e != api.OK && got != nil {
			return fmt.Sprintf("Read(%q): %q, %d, not %q, %d", name, got, e, want, wantE)
		}
	}
	return ""
}

// follow: calls one behind the other, each answer held against the book.
func follow(t *testing.T, quota int, asked []string, calls ...call) {
	t.Helper()
	c, b := mustNew(t, quota), newBook(quota)
	for i, x := range calls {
		if got, want := x.on(c), b.do(x); got != want {
			t.Fatalf("%+v: call %d: %d, not %d", calls, i, got, want)
		}
		if s := b.differs(c, asked); s != "" {
			t.Fatalf("%+v: behind call %d: %s", calls, i, s)
		}
	}
}

func mustNew(t *testing.T, quota int) *Cabinet {
	t.Helper()
	c, e := New(quota)
	if c == nil || e != api.OK {
		t.Fatalf("New(%d): %v, %d", quota, c, e)
	}
	return c
}

// filled: a Cabinet with which calls were done, all of them OK.
func filled(t *testing.T, quota int, calls ...call) *Cabinet {
	t.Helper()
	c := mustNew(t, quota)
	must(t, c, calls...)
	return c
}

func must(t *testing.T, c *Cabinet, calls ...call) {
	t.Helper()
	for _, x := range calls {
		refuse(t, c, x, api.OK)
	}
}

// refuse: a call answers an error.
func refuse(t *testing.T, c *Cabinet, x call, want api.Errno) {
	t.Helper()
	if e := x.on(c); e != want {
		t.Fatalf("%+.80v: %d, not %d", x, e, want)
	}
}

func wantUsed(t *testing.T, c *Cabinet, want int) {
	t.Helper()
	if used, _ := c.Used(); used != want {
		t.Fatalf("Used: %d, not %d", used, want)
	}
}

func wantNames(t *testing.T, c *Cabinet, want ...string) {
	t.Helper()
	if names, e := c.Names(); e != api.OK || !slices.Equal(names, want) {
		t.Fatalf("Names: %q, %d, not %q", names, e, want)
	}
}

func wantFile(t *testing.T, c *Cabinet, name, want string) {
	t.Helper()
	if b, e := c.Read(name); e != api.OK || string(b) != want {
		t.Fatalf("Read(%q): %.80q, %d, not %.80q", name, b, e, want)
	}
}

func wantNone(t *testing.T, c *Cabinet, name string) {
	t.Helper()
	if b, e := c.Read(name); e != api.ErrNone || b != nil {
		t.Fatalf("Read(%q): %q, %d", name, b, e)
	}
}

// P9.1: New

func TestNew(t *testing.T) {
	for quota, want := range map[int]api.Errno{
		math.MinInt: api.ErrArg, -1 << 30: api.ErrArg, -1: api.ErrArg, 0: api.ErrArg,
		1: api.OK, 2: api.OK, 1<<30 - 1: api.OK, 1 << 30: api.OK,
		1<<30 + 1: api.ErrArg, 1 << 31: api.ErrArg, 1<<32 + 1: api.ErrArg, math.MaxInt: api.ErrArg,
	} {
		c, e := New(quota)
		if e != want || (c == nil) != (want != api.OK) {
			t.Errorf("New(%d): %v, %d", quota, c, e)
		}
		if want != api.OK {
			continue
		}
		if used, got := c.Used(); used != 0 || got != quota {
			t.Errorf("Used of New(%d): %d, %d", quota, used, got)
		}
		wantNames(t, c)
		wantNone(t, c, "a")
		refuse(t, c, turning(), api.OK)
	}
	// Two of them have nothing in common.
	a, b := mustNew(t, 5), mustNew(t, 5)
	must(t, a, creating("a"), appending("a", "12345"), turning())
	wantNames(t, b)
	wantUsed(t, b, 0)
}

// changes: one change of each kind, which are OK with a file a that is not full.
func changes() []call {
	return []call{creating("n"), appending("a", "x"), appending("a", ""), syncing("a"), renaming("a", "n"), renaming("a", "a"), removing("a"), turning()}
}

// wrong: changes that are wrong whatever there is.
func wrong() []call {
	return []call{creating(""), appending("", "x"), syncing(""), renaming("", ""), removing("")}
}

func TestNoCabinet(t *testing.T) {
	var c *Cabinet
	for _, x := range append(changes(), wrong()...) {
		refuse(t, c, x, api.ErrArg)
	}
	c.Fail(0)
	c.Fail(-1)
	c.Crash(1, []int{1}, 1)
	if b, e := c.Read("a"); b != nil || e != api.ErrArg {
		t.Errorf("Read: %v, %d", b, e)
	}
	if names, e := c.Names(); names != nil || e != api.ErrArg {
		t.Errorf("Names: %v, %d", names, e)
	}
	if used, quota := c.Used(); used != 0 || quota != 0 {
		t.Errorf("Used: %d, %d", used, quota)
	}
}

// P1: a Cabinet that New did not make is one without room.
func TestCabinetOfNothing(t *testing.T) {
	for _, x := range append(changes(), wrong()...) {
		c := &Cabinet{}
		x.on(c)
		c.Crash(1, []int{1}, 1)
		c.Fail(0)
		x.on(c)
	}
	c := &Cabinet{}
	must(t, c, creating("a"), appending("a", ""), syncing("a"), turning())
	refuse(t, c, appending("a", "1"), api.ErrSpace)
	wantNames(t, c, "a")
	wantUsed(t, c, 0)
}

// P9.1: names

func TestNameBytes(t *testing.T) {
	for i := range 256 {
		sign := string([]byte{byte(i)})
		want := api.ErrName
		if strings.IndexByte(nameSigns, byte(i)) >= 0 {
			want = api.OK
		}
		for _, name := range []string{sign, sign + "ab", "a" + sign + "b", "ab" + sign, strings.Repeat("z", 31) + sign} {
			c := filled(t, 1, creating("other"))
			refuse(t, c, creating(name), want)
			refuse(t, c, renaming("other", name), want)
			if want != api.OK {
				wantNames(t, c, "other")
			}
		}
	}
	for _, name := range []string{"é", "ａ", "a\x00", "\xff\xfe", "a/b", "A", "a b", "a_b", "a\n"} {
		refuse(t, mustNew(t, 1), creating(name), api.ErrName)
	}
	for _, name := range []string{".", "..", "-", "---", "0", "a", "t-state"} {
		c := filled(t, 1, creating(name))
		wantNames(t, c, name)
	}
}

func TestNameLengths(t *testing.T) {
	for n := range 70 {
		name := strings.Repeat("k", n)
		want := api.OK
		if n < 1 || n > 32 {
			want = api.ErrName
		}
		c := filled(t, 1, creating("other"))
		refuse(t, c, creating(name), want)
		if want == api.OK {
			must(t, c, removing(name))
		}
		refuse(t, c, renaming("other", name), want)
	}
	refuse(t, mustNew(t, 1), creating(strings.Repeat("k", 1<<20)), api.ErrName)
}

// P9.1: Create

func TestCreate(t *testing.T) {
	c := filled(t, 10, creating("b"))
	wantFile(t, c, "b", "")
	refuse(t, c, creating("b"), api.ErrThere)
	must(t, c, appending("b", "1"))
	refuse(t, c, creating("b"), api.ErrThere)
	wantFile(t, c, "b", "1")
	must(t, c, renaming("b", "a"), creating("b"))
	wantFile(t, c, "a", "1")
	wantFile(t, c, "b", "")
	must(t, c, removing("a"), creating("a"))
	wantFile(t, c, "a", "")
	refuse(t, c, creating("a"), api.ErrThere)
	wantNames(t, c, "a", "b")
}

func fileName(i int) string { return fmt.Sprintf("f%04d", i) }

// full: a Cabinet with MaxFiles names.
func full(t *testing.T) *Cabinet {
	t.Helper()
	c := mustNew(t, 10)
	for i := range api.MaxFiles {
		must(t, c, creating(fileName(i)))
	}
	return c
}

func TestCreateFull(t *testing.T) {
	c := full(t)
	names, e := c.Names()
	if e != api.OK || len(names) != 4096 || names[0] != "f0000" || names[4095] != "f4095" {
		t.Fatalf("Names: %d of them, %d", len(names), e)
	}
	refuse(t, c, creating("x"), api.ErrFull)
	refuse(t, c, creating("f0000"), api.ErrThere)
	refuse(t, c, creating("X"), api.ErrName)
	// A name more is there by no Rename.
	must(t, c, renaming("f0000", "x"))
	refuse(t, c, creating("f0000"), api.ErrFull)
	must(t, c, renaming("x", "f0001"), creating("f0000"))
	refuse(t, c, creating("x"), api.ErrFull)
	// Names count, not the files that take room.
	must(t, c, turning(), removing("f0007"), creating("x"))
	refuse(t, c, creating("f0007"), api.ErrFull)
	must(t, c, removing("x"), creating("f0007"))
	refuse(t, c, creating("x"), api.ErrFull)
	c.Crash(1, nil, 0)
	wantNone(t, c, "f0007")
	must(t, c, creating("y"))
	refuse(t, c, creating("x"), api.ErrFull)
	refuse(t, c, creating("f0007"), api.ErrFull)
}

// P9.1: Append

func TestAppend(t *testing.T) {
	c := filled(t, 20, creating("a"), creating("b"))
	refuse(t, c, appending("c", "1"), api.ErrNone)
	refuse(t, c, appending("", ""), api.ErrNone)
	must(t, c, appending("a", "12"), appending("b", "x"), appending("a", ""), appending("a", "345"))
	wantFile(t, c, "a", "12345")
	wantFile(t, c, "b", "x")
	wantUsed(t, c, 6)
	if c.Append("a", nil) != api.OK {
		t.Error("Append of nothing")
	}
	must(t, c, renaming("a", "c"), appending("c", "6"))
	wantFile(t, c, "c", "123456")
	refuse(t, c, appending("a", "1"), api.ErrNone)
}

func TestAppendLarge(t *testing.T) {
	large := strings.Repeat("x", 1<<20)
	c := filled(t, 4<<20, creating("a"), creating("b"), creating("c"))
	refuse(t, c, appending("a", large+"y"), api.ErrLarge)
	wantFile(t, c, "a", "")
	must(t, c, appending("a", large), appending("a", ""), appending("b", large[1:]))
	refuse(t, c, appending("a", "y"), api.ErrLarge)
	refuse(t, c, appending("a", large), api.ErrLarge)
	refuse(t, c, appending("b", "yz"), api.ErrLarge)
	must(t, c, appending("b", "y"))
	refuse(t, c, appending("b", "z"), api.ErrLarge)
	wantFile(t, c, "a", large)
	wantFile(t, c, "b", large[1:]+"y")
	wantUsed(t, c, 2<<20)
	// What is synced, and what lasts, counts as well.
	must(t, c, syncing("a"), turning())
	refuse(t, c, appending("a", "y"), api.ErrLarge)
	c.Crash(0, nil, 0)
	refuse(t, c, appending("a", "y"), api.ErrLarge)
	must(t, c, appending("b", large))
}

func TestAppendSpace(t *testing.T) {
	c := filled(t, 10, creating("a"), creating("b"))
	refuse(t, c, appending("a", "12345678901"), api.ErrSpace)
	must(t, c, appending("a", "1234567890"))
	refuse(t, c, appending("a", "1"), api.ErrSpace)
	refuse(t, c, appending("b", "1"), api.ErrSpace)
	must(t, c, appending("a", ""), appending("b", ""))
	wantUsed(t, c, 10)
	wantFile(t, c, "a", "1234567890")
	c = filled(t, 1, creating("a"), appending("a", "1"))
	refuse(t, c, appending("a", "1"), api.ErrSpace)
	wantUsed(t, c, 1)
	// ErrLarge stands first.
	c = filled(t, api.MaxFile-1, creating("a"))
	refuse(t, c, appending("a", strings.Repeat("x", api.MaxFile+1)), api.ErrLarge)
	refuse(t, c, appending("a", strings.Repeat("x", api.MaxFile)), api.ErrSpace)
	must(t, c, appending("a", strings.Repeat("x", api.MaxFile-1)))
	refuse(t, c, appending("a", "xy"), api.ErrLarge)
	refuse(t, c, appending("a", "x"), api.ErrSpace)
}

// Bytes of files that have lost their names since the last Turn are taken till the next one.
func TestSpaceOfFilesWithoutNames(t *testing.T) {
	// One that had a name at the last Turn.
	c := filled(t, 10, creating("a"), appending("a", "123456"), turning(), removing("a"), creating("b"))
	wantUsed(t, c, 6)
	refuse(t, c, appending("b", "12345"), api.ErrSpace)
	must(t, c, appending("b", "1234"))
	refuse(t, c, appending("b", "5"), api.ErrSpace)
	must(t, c, turning())
	wantUsed(t, c, 4)
	must(t, c, appending("b", "567890"))
	refuse(t, c, appending("b", "1"), api.ErrSpace)
	// One that has had one since.
	c = filled(t, 10, turning(), creating("a"), appending("a", "123456"), removing("a"), creating("a"))
	wantUsed(t, c, 6)
	refuse(t, c, appending("a", "12345"), api.ErrSpace)
	must(t, c, appending("a", "1234"), turning())
	wantUsed(t, c, 4)
	// One that was renamed over, at the last Turn and since.
	c = filled(t, 10, creating("a"), creating("b"), appending("a", "123"), appending("b", "45"), turning(), renaming("a", "b"))
	wantUsed(t, c, 5)
	must(t, c, creating("c"), appending("c", "6789"), renaming("c", "b"))
	wantUsed(t, c, 9)
	wantFile(t, c, "b", "6789")
	refuse(t, c, appending("b", "12"), api.ErrSpace)
	must(t, c, turning())
	wantUsed(t, c, 4)
	// A name that is another file's now gives the first one none.
	must(t, c, removing("b"), creating("b"), turning())
	wantUsed(t, c, 0)
	wantFile(t, c, "b", "")
}

// P9.1: Rename

func TestRename(t *testing.T) {
	c := filled(t, 20, creating("a"), appending("a", "12"), creating("b"), appending("b", "345"))
	refuse(t, c, renaming("c", "d"), api.ErrNone)
	refuse(t, c, renaming("c", "a"), api.ErrNone)
	refuse(t, c, renaming("c", "c"), api.ErrNone)
	refuse(t, c, renaming("c", "D"), api.ErrNone)
	refuse(t, c, renaming("", ""), api.ErrNone)
	refuse(t, c, renaming("C", "C"), api.ErrNone)
	refuse(t, c, renaming("a", ""), api.ErrName)
	refuse(t, c, renaming("a", "A"), api.ErrName)
	wantNames(t, c, "a", "b")
	must(t, c, renaming("a", "c"))
	wantNames(t, c, "b", "c")
	wantNone(t, c, "a")
	wantFile(t, c, "c", "12")
	// Onto another file, which has no name then.
	must(t, c, renaming("c", "b"))
	wantNames(t, c, "b")
	wantNone(t, c, "c")
	wantFile(t, c, "b", "12")
	// Onto itself: the file has that name.
	must(t, c, renaming("b", "b"))
	wantNames(t, c, "b")
	wantFile(t, c, "b", "12")
	wantUsed(t, c, 5)
	must(t, c, turning())
	wantUsed(t, c, 2)
	must(t, c, renaming("b", "b"), turning())
	wantFile(t, c, "b", "12")
	wantUsed(t, c, 2)
}

// P9.1: Sync, Remove, Turn, Read, Names

func TestOfNoFile(t *testing.T) {
	c := filled(t, 10, creating("a"))
	for _, name := range []string{"b", "", "A", "aa", strings.Repeat("a", 33), "\xff", "a\x00"} {
		for _, x := range []call{appending(name, ""), syncing(name), renaming(name, "n"), removing(name)} {
			refuse(t, c, x, api.ErrNone)
		}
		wantNone(t, c, name)
	}
	wantNames(t, c, "a")
}

func TestRemove(t *testing.T) {
	c := filled(t, 10, creating("a"), creating("b"), appending("a", "1"), removing("a"))
	wantNames(t, c, "b")
	wantNone(t, c, "a")
	for _, x := range []call{appending("a", "1"), syncing("a"), renaming("a", "b"), removing("a")} {
		refuse(t, c, x, api.ErrNone)
	}
	must(t, c, removing("b"))
	wantNames(t, c)
}

func TestSyncAndTurnShowNothing(t *testing.T) {
	c := filled(t, 10, creating("b"), creating("a"), appending("a", "1"), syncing("a"), turning(), appending("a", "2"), syncing("a"), syncing("a"), turning(), turning())
	wantNames(t, c, "a", "b")
	wantFile(t, c, "a", "12")
	wantFile(t, c, "b", "")
	wantUsed(t, c, 2)
	must(t, filled(t, 1), turning(), turning())
}

func TestNames(t *testing.T) {
	c := mustNew(t, 10)
	made := []string{"z", "a", "m-", "m.", "m0", "m", "10", "9", "-", ".", "ma", "b", "zz", "0", strings.Repeat("z", 32)}
	want := slices.Clone(made)
	slices.Sort(want)
	for _, name := range made {
		must(t, c, creating(name))
	}
	wantNames(t, c, want...)
	if want[0] != "-" || want[1] != "." || want[2] != "0" {
		t.Errorf("the order is that of bytes: %q", want)
	}
	must(t, c, renaming("a", "y"), removing("z"))
	got, _ := c.Names()
	if !slices.IsSorted(got) || len(got) != len(made)-1 {
		t.Errorf("Names: %q", got)
	}
}

// R4: what is handed in and what is answered is the caller's.
func TestMemory(t *testing.T) {
	c := filled(t, 100, creating("a"), creating("b"))
	room := []byte("12345678")
	b := room[:3]
	if c.Append("a", b) != api.OK || string(room) != "12345678" {
		t.Fatalf("Append changes %q", room)
	}
	copy(room, "xxxxxxxx")
	wantFile(t, c, "a", "123")
	must(t, c, appending("a", "45"), syncing("a"), turning())
	if string(room) != "xxxxxxxx" {
		t.Fatalf("Append keeps %q", room)
	}
	for range 3 {
		got, _ := c.Read("a")
		got = got[:cap(got)]
		for i := range got {
			got[i] = '!'
		}
		wantFile(t, c, "a", "12345")
		must(t, c, appending("a", "6"), appending("b", "7"))
		if strings.Trim(string(got), "!") != "" {
			t.Fatalf("what Read answered becomes %q", got)
		}
		c.Crash(0, nil, 0)
	}
}

func TestMemoryOfLists(t *testing.T) {
	c := filled(t, 100, creating("a"), creating("b"), appending("a", "12345"))
	names, _ := c.Names()
	names = names[:cap(names)]
	for i := range names {
		names[i] = "!"
	}
	wantNames(t, c, "a", "b")
	keep := []int{2, 9, 9}
	c.Crash(2, keep[:1], 1)
	if !slices.Equal(keep, []int{2, 9, 9}) {
		t.Fatalf("Crash changes %v", keep)
	}
	keep[0] = 0
	wantFile(t, c, "a", "122")
	// Two answers have nothing in common, and neither has what a Crash leaves.
	one, _ := c.Read("a")
	two, _ := c.Read("a")
	one[0], two[1] = 'x', 'y'
	c.Crash(0, nil, 7)
	wantFile(t, c, "a", "122")
	if string(one) != "x22" || string(two) != "1y2" {
		t.Errorf("%q, %q", one, two)
	}
}

// P9.2: Fail

func TestFail(t *testing.T) {
	for after := range 5 {
		c := filled(t, 10, creating("a"))
		c.Fail(after)
		for i := range after {
			must(t, c, appending("a", fmt.Sprint(i)))
		}
		// Till it goes, it is there.
		wantFile(t, c, "a", "0123"[:after])
		refuse(t, c, appending("a", "x"), api.ErrDown)
		for range 3 {
			for _, x := range append(changes(), wrong()...) {
				refuse(t, c, x, api.ErrDown)
			}
		}
		wantDown(t, c)
		wantUsed(t, c, after)
		c.Crash(9, []int{9}, 0)
		wantFile(t, c, "a", "0123"[:after])
	}
}

func wantDown(t *testing.T, c *Cabinet) {
	t.Helper()
	for _, name := range []string{"a", "x", "", "A"} {
		if b, e := c.Read(name); b != nil || e != api.ErrDown {
			t.Fatalf("Read(%q): %q, %d", name, b, e)
		}
	}
	if names, e := c.Names(); names != nil || e != api.ErrDown {
		t.Fatalf("Names: %q, %d", names, e)
	}
}

// Each kind of change counts, also one of no effect; each that is cut off is not done.
func TestFailOfEachKind(t *testing.T) {
	for _, x := range changes() {
		start := []call{creating("a"), appending("a", "12"), syncing("a"), turning(), appending("a", "34"), creating("b"), removing("b")}
		c := filled(t, 10, start...)
		c.Fail(1)
		must(t, c, x)
		refuse(t, c, turning(), api.ErrDown)
		wantDown(t, c)
		c = filled(t, 10, start...)
		c.Fail(0)
		refuse(t, c, x, api.ErrDown)
		wantDown(t, c)
		wantUsed(t, c, 4)
		c.Crash(9, []int{1}, 0)
		wantNames(t, c, "a")
		wantFile(t, c, "a", "123")
	}
	// An Append that is cut off takes no room.
	c := filled(t, 10, creating("a"))
	c.Fail(0)
	refuse(t, c, appending("a", "123456"), api.ErrDown)
	wantUsed(t, c, 0)
	c.Crash(9, []int{9}, 1)
	wantFile(t, c, "a", "")
	must(t, c, appending("a", "1234567890"))
}

// What is refused and what only asks does not count, and its own error stands ahead of the power's.
func TestFailBehindOtherErrors(t *testing.T) {
	c := filled(t, 10, creating("a"))
	c.Fail(0)
	for range 3 {
		for x, want := range map[string]api.Errno{"A": api.ErrName, "a": api.ErrThere} {
			refuse(t, c, creating(x), want)
		}
		refuse(t, c, appending("b", "1"), api.ErrNone)
		refuse(t, c, appending("a", strings.Repeat("x", api.MaxFile+1)), api.ErrLarge)
		refuse(t, c, appending("a", "12345678901"), api.ErrSpace)
		refuse(t, c, syncing("b"), api.ErrNone)
		refuse(t, c, renaming("b", "c"), api.ErrNone)
		refuse(t, c, renaming("a", "C"), api.ErrName)
		refuse(t, c, removing("b"), api.ErrNone)
		wantNames(t, c, "a")
		wantFile(t, c, "a", "")
		wantNone(t, c, "b")
		wantUsed(t, c, 0)
	}
	refuse(t, c, syncing("a"), api.ErrDown)
	refuse(t, c, creating("A"), api.ErrDown)
	c = full(t)
	c.Fail(0)
	refuse(t, c, creating("x"), api.ErrFull)
	refuse(t, c, removing("f0000"), api.ErrDown)
}

func TestFailAgain(t *testing.T) {
	for _, never := range []int{-1, -2, math.MinInt} {
		c := filled(t, 1000, creating("a"))
		c.Fail(never)
		for range 100 {
			must(t, c, appending("a", "x"))
		}
		// The last word counts.
		c.Fail(0)
		c.Fail(never)
		must(t, c, appending("a", "x"))
		c.Fail(5)
		c.Fail(1)
		must(t, c, appending("a", "x"))
		refuse(t, c, turning(), api.ErrDown)
	}
	c := filled(t, 1000, creating("a"))
	c.Fail(math.MaxInt)
	for range 100 {
		must(t, c, syncing("a"))
	}
	c.Fail(2)
	must(t, c, syncing("a"))
	c.Fail(2)
	must(t, c, syncing("a"), syncing("a"))
	refuse(t, c, syncing("a"), api.ErrDown)
	// Nothing but a Crash brings the power back.
	for _, after := range []int{-1, 0, 1, 9} {
		c.Fail(after)
		refuse(t, c, syncing("a"), api.ErrDown)
		wantDown(t, c)
	}
}

func TestCrashUndoesFail(t *testing.T) {
	for _, after := range []int{-1, 0, 1, 2, 9} {
		// Gone already, and not gone yet.
		for _, gone := range []bool{false, true} {
			c := filled(t, 10, creating("a"), turning())
			if gone {
				c.Fail(0)
				refuse(t, c, turning(), api.ErrDown)
			}
			c.Fail(after)
			c.Crash(0, nil, 0)
			for range 20 {
				must(t, c, syncing("a"))
			}
			wantNames(t, c, "a")
			c.Fail(1)
			must(t, c, turning())
			refuse(t, c, turning(), api.ErrDown)
		}
	}
}

// P9.2: Crash: names

func TestCrashNames(t *testing.T) {
	calls := []call{creating("a"), creating("b"), turning(), creating("c"), renaming("a", "d"), renaming("d", "d"), renaming("d", "b"), removing("c"), creating("a"), removing("a"), creating("a")}
	pages := [][]string{{"a", "b"}, {"a", "b", "c"}, {"b", "c", "d"}, {"b", "c", "d"}, {"b", "c"}, {"b"}, {"a", "b"}, {"b"}, {"a", "b"}}
	last := len(pages) - 1
	for names := range pages {
		c := filled(t, 10, calls...)
		c.Crash(names, nil, 0)
		wantNames(t, c, pages[names]...)
		// All that lasts then.
		c.Crash(math.MaxInt, nil, 0)
		wantNames(t, c, pages[names]...)
		c.Crash(0, nil, 0)
		wantNames(t, c, pages[names]...)
	}
	for names, want := range map[int]int{-1: 0, math.MinInt: 0, last + 1: last, math.MaxInt: last} {
		c := filled(t, 10, calls...)
		c.Crash(names, nil, 0)
		wantNames(t, c, pages[want]...)
	}
	// Without a Turn nothing lasts.
	c := filled(t, 10, creating("a"), appending("a", "1"), syncing("a"))
	c.Crash(0, []int{9}, 1)
	wantNames(t, c)
	wantUsed(t, c, 0)
	c.Crash(9, nil, 0)
	wantNames(t, c)
	// Neither an Append nor a Sync is one of those that names counts.
	c = filled(t, 10, creating("a"), appending("a", "1"), syncing("a"), appending("a", "2"), syncing("a"), creating("b"), creating("c"))
	c.Crash(2, nil, 0)
	wantNames(t, c, "a", "b")
	wantFile(t, c, "a", "12")
}

// Names that are lost give their files back what they had.
func TestCrashFilesByNames(t *testing.T) {
	start := []call{creating("a"), creating("b"), appending("a", "old"), appending("b", "other"), syncing("a"), syncing("b"), turning()}
	for i, f := range []struct {
		calls []call
		names int
		want  map[string]string
	}{
		{[]call{renaming("a", "b")}, 0, map[string]string{"a": "old", "b": "other"}},
		{[]call{renaming("a", "b")}, 1, map[string]string{"b": "old"}},
		{[]call{removing("a"), creating("a"), appending("a", "new"), syncing("a")}, 0, map[string]string{"a": "old", "b": "other"}},
		{[]call{removing("a"), creating("a"), appending("a", "new"), syncing("a")}, 1, map[string]string{"b": "other"}},
		{[]call{removing("a"), creating("a"), appending("a", "new"), syncing("a")}, 2, map[string]string{"a": "new", "b": "other"}},
		// Bytes are a file's, under whatever name they were synced.
		{[]call{renaming("a", "c"), appending("c", "er"), syncing("c")}, 0, map[string]string{"a": "older", "b": "other"}},
		{[]call{appending("a", "er"), renaming("a", "c"), syncing("c"), removing("c")}, 0, map[string]string{"a": "older", "b": "other"}},
		{[]call{appending("a", "er"), syncing("a"), renaming("a", "c"), removing("c")}, 1, map[string]string{"b": "other", "c": "older"}},
		{[]call{appending("a", "er"), renaming("a", "b"), removing("b")}, 0, map[string]string{"a": "old", "b": "other"}},
		{[]call{renaming("a", "c"), renaming("b", "a"), renaming("c", "b")}, 3, map[string]string{"a": "other", "b": "old"}},
		{[]call{renaming("a", "c"), renaming("b", "a"), renaming("c", "b")}, 2, map[string]string{"a": "other", "c": "old"}},
		{[]call{renaming("a", "a"), renaming("a", "b")}, 1, map[string]string{"a": "old", "b": "other"}},
	} {
		c := filled(t, 100, append(slices.Clone(start), f.calls...)...)
		c.Crash(f.names, nil, 0)
		sum := 0
		for name, want := range f.want {
			wantFile(t, c, name, want)
			sum += len(want)
		}
		if names, _ := c.Names(); !slices.Equal(names, slices.Sorted(maps.Keys(f.want))) {
			t.Errorf("%d: Names: %q", i, names)
		}
		wantUsed(t, c, sum)
	}
}

// A file without a name any more is there again, if what took its name is lost.
func TestCrashBringsBack(t *testing.T) {
	c := filled(t, 10, creating("a"), appending("a", "123"), syncing("a"), appending("a", "45"), removing("a"))
	c.Crash(1, []int{1}, 1)
	wantFile(t, c, "a", "12344")
	wantUsed(t, c, 5)
	must(t, c, appending("a", "67890"))
	refuse(t, c, appending("a", "1"), api.ErrSpace)
}

// P9.2: Crash: bytes

func TestCrashBytes(t *testing.T) {
	for keep := -3; keep < 9; keep++ {
		for _, turn := range []uint8{0, 1, 128, 255} {
			for synced := range 5 {
				c := filled(t, 10, creating("a"), appending("a", "1234"[:synced]), syncing("a"), appending("a", "1234"[synced:]), turning())
				c.Crash(0, []int{keep}, turn)
				end := min(4, synced+max(keep, 0))
				want := []byte("1234"[:end])
				if turn != 0 && end < 4 {
					want = append(want, "1234"[end]^turn)
				}
				wantFile(t, c, "a", string(want))
				wantUsed(t, c, len(want))
				// All that lasts then.
				c.Crash(0, nil, 3)
				wantFile(t, c, "a", string(want))
				must(t, c, appending("a", "567"))
				c.Crash(0, nil, 0)
				wantFile(t, c, "a", string(want))
			}
		}
	}
	for keep, want := range map[int]string{math.MinInt: "", math.MaxInt: "1234"} {
		c := filled(t, 10, creating("a"), appending("a", "1234"), turning())
		c.Crash(0, []int{keep}, 0)
		wantFile(t, c, "a", want)
		c = filled(t, 10, creating("a"), appending("a", "1"), syncing("a"), appending("a", "234"), turning())
		c.Crash(0, []int{keep}, 0)
		wantFile(t, c, "a", max(want, "1"))
	}
}

func TestCrashKeep(t *testing.T) {
	start := []call{creating("c"), creating("b"), creating("a"), appending("a", "aaa"), appending("b", "bbb"), appending("c", "ccc"), turning()}
	for i, f := range []struct {
		keep    []int
		turn    uint8
		a, b, c string
	}{
		{nil, 0, "", "", ""},
		{[]int{}, 0, "", "", ""},
		{nil, 1, "`", "c", "b"},
		{[]int{1}, 0, "a", "", ""},
		{[]int{1, 2}, 0, "a", "bb", ""},
		{[]int{1, 2, 3}, 0, "a", "bb", "ccc"},
		{[]int{1, 2, 3}, 1, "a`", "bbc", "ccc"},
		{[]int{1, 2, 3, 9, 9}, 0, "a", "bb", "ccc"},
		{[]int{0, 0, 2}, 0, "", "", "cc"},
		{[]int{-1, 5, -1}, 0, "", "bbb", ""},
		{[]int{9, 9, 9}, 255, "aaa", "bbb", "ccc"},
		{[]int{-9, 9}, 2, "c", "bbb", "a"},
	} {
		c := filled(t, 20, start...)
		c.Crash(0, f.keep, f.turn)
		for name, want := range map[string]string{"a": f.a, "b": f.b, "c": f.c} {
			if got, e := c.Read(name); string(got) != want || e != api.OK {
				t.Errorf("%d: Read(%q): %q, %d, not %q", i, name, got, e, want)
			}
		}
		wantUsed(t, c, len(f.a)+len(f.b)+len(f.c))
	}
	// By the names that there are then, not by those of before.
	c := filled(t, 20, append(start, renaming("a", "d"), creating("e"), removing("b"))...)
	c.Crash(1, []int{1, 2, 3}, 0)
	wantNames(t, c, "b", "c", "d")
	wantFile(t, c, "b", "b")
	wantFile(t, c, "c", "cc")
	wantFile(t, c, "d", "aaa")
}

// What a Crash forgets takes no room any more, and nothing of it comes again.
func TestCrashRoom(t *testing.T) {
	c := filled(t, 10, creating("a"), appending("a", "1"), syncing("a"), turning(), appending("a", "234"), creating("b"), appending("b", "567890"), removing("b"))
	wantUsed(t, c, 10)
	c.Crash(0, []int{1}, 0)
	wantUsed(t, c, 2)
	wantFile(t, c, "a", "12")
	must(t, c, appending("a", "345678"), creating("b"), appending("b", "90"))
	refuse(t, c, appending("b", "1"), api.ErrSpace)
	wantFile(t, c, "a", "12345678")
	wantFile(t, c, "b", "90")
	must(t, c, turning())
	wantUsed(t, c, 10)
	c.Crash(9, []int{math.MaxInt, math.MaxInt}, 9)
	wantFile(t, c, "a", "12345678")
	wantFile(t, c, "b", "90")
}

// What was synced and turned lasts, through crashes one behind the other.
func TestLasts(t *testing.T) {
	c := filled(t, 100, creating("a"), appending("a", "first"), syncing("a"), turning())
	want := "first"
	for i := range 6 {
		must(t, c, appending("a", "lost"), creating("b"), renaming("a", "c"), removing("c"))
		if i%2 == 0 {
			c.Fail(0)
			refuse(t, c, turning(), api.ErrDown)
		}
		c.Crash(-i, nil, 0)
		wantNames(t, c, "a")
		wantFile(t, c, "a", want)
		more := fmt.Sprint(i)
		must(t, c, appending("a", more), syncing("a"))
		want += more
		c.Crash(i, []int{i}, uint8(i))
		wantFile(t, c, "a", want)
		wantUsed(t, c, len(want))
	}
}

// Both promises, against the book

func TestByTheBookAllShort(t *testing.T) {
	calls := []call{
		creating("a"), creating("b"), appending("a", "12"), appending("b", "345"), syncing("a"), renaming("a", "b"), renaming("a", "a"), renaming("b", "a"),
		removing("a"), turning(), failing(1), crashing(1, []int{1, 1}, 0), crashing(9, nil, 3),
	}
	asked := []string{"a", "b"}
	row := []call{creating("a")}
	var deeper func(n int)
	deeper = func(n int) {
		if n == 0 {
			follow(t, 6, asked, row...)
			return
		}
		for _, x := range calls {
			row = append(row, x)
			deeper(n - 1)
			row = row[:len(row)-1]
		}
	}
	deeper(4)
}

// drawn: a call by chance, of few names and bytes.
func drawn(r *rand.Rand, names []string) call {
	name := func() string { return names[r.Intn(len(names))] }
	switch r.Intn(20) {
	case 0, 1, 2, 3:
		return creating(name())
	case 4, 5, 6, 7, 8:
		b := make([]byte, r.Intn(9))
		r.Read(b)
		return appending(name(), string(b))
	case 9, 10, 11:
		return syncing(name())
	case 12, 13, 14:
		return renaming(name(), name())
	case 15, 16:
		return removing(name())
	case 17:
		return turning()
	case 18:
		return failing(r.Intn(12) - 3)
	}
	keep := make([]int, r.Intn(6))
	for i := range keep {
		keep[i] = r.Intn(10) - 2
	}
	return crashing(r.Intn(10)-2, keep, uint8(r.Intn(3)*r.Intn(256)))
}

func TestByTheBookDrawn(t *testing.T) {
	names := []string{"a", "b", "c", "d", "-.9", "A", ""}
	for seed := range 3000 {
		r := rand.New(rand.NewSource(int64(seed)))
		calls := make([]call, 60)
		for i := range calls {
			calls[i] = drawn(r, names)
		}
		follow(t, 1+r.Intn(40), names, calls...)
	}
}

// P2: the same calls give the same answers.
func TestSameInSameOut(t *testing.T) {
	names := []string{"a", "b", "c", "d", "e", "f", "g", "h"}
	r := rand.New(rand.NewSource(1))
	one, two := mustNew(t, 60), mustNew(t, 60)
	for range 20000 {
		x := drawn(r, names)
		if a, b := x.on(one), x.on(two); a != b {
			t.Fatalf("%+v: %d and %d", x, a, b)
		}
		a, _ := one.Names()
		b, _ := two.Names()
		if !slices.Equal(a, b) {
			t.Fatalf("%+v: %q and %q", x, a, b)
		}
		for _, name := range a {
			c, _ := one.Read(name)
			d, _ := two.Read(name)
			if !bytes.Equal(c, d) {
				t.Fatalf("%+v: %q: %q and %q", x, name, c, d)
			}
		}
	}
}
