package object

import (
	"math"
	"math/rand"
	"reflect"
	"slices"
	"strings"
	"testing"
	"unicode/utf8"

	"chartulary/api"
)

// The ends of what a version may have, as the document writes them.
const (
	firstMoment = -62135596800
	lastMoment  = 253402300799
	mostBytes   = 1024 * 16
)

// longKey is as long as a key may be.
var longKey = strings.Repeat("k", 200)

// keys are some that are one, and some that are not.
var keys = []string{
	"k", "a/b", " ", "\u0080", "ä€𝄞", longKey, strings.Repeat("ä", 100),
	"", longKey + "k", "\x00", "a\x1f", "\x7f", "a\nb", "\xff", "a\xc3", "\xed\xa0\x80", strings.Repeat("ä", 100) + "a",
}

// locks are some that are sound, and some that are not.
var locks = []api.Lock{
	{}, {Hold: true}, {Mode: 1}, {Mode: 2, Until: 100}, {Mode: 1, Until: 5, Hold: true}, {Mode: 2, Until: lastMoment}, {Mode: 1, Until: firstMoment},
	{Until: 1}, {Until: -1, Hold: true}, {Mode: 3}, {Mode: -1}, {Mode: 2, Until: lastMoment + 1}, {Mode: 1, Until: firstMoment - 1},
}

// tagLists are some that are sound, and some that are not.
var tagLists = [][]api.Tag{
	nil, {}, {{Name: "a"}}, {{Name: "a", Value: "1"}, {Name: "b", Value: "1"}}, manyTags(8),
	{{Name: strings.Repeat("n", 64), Value: strings.Repeat("v", 64)}},
	manyTags(9), {{Value: "1"}}, {{Name: "a"}, {Name: "a"}}, {{Name: "b"}, {Name: "a"}}, {{Name: "a\n"}}, {{Name: "a", Value: "\xff"}},
	{{Name: strings.Repeat("n", 65)}}, {{Name: "n", Value: strings.Repeat("v", 65)}},
}

// manyTags: n tags in order.
func manyTags(n int) []api.Tag {
	var list []api.Tag
	for i := range n {
		list = append(list, api.Tag{Name: string(rune('a' + i)), Value: "v"})
	}
	return list
}

// readText: what the chapters' words say of the signs of keys and tags.
func readText(s string) bool {
	return utf8.ValidString(s) && !strings.ContainsFunc(s, func(sign rune) bool { return sign < 32 || sign == 127 })
}

// readKey: what chapter 6 says of a key.
func readKey(s string) bool { return 1 <= len(s) && len(s) <= 200 && readText(s) }

// readLock: what chapter 12 says of a lock.
func readLock(l api.Lock) bool {
	return l.Mode == 0 && l.Until == 0 || (l.Mode == 1 || l.Mode == 2) && firstMoment <= l.Until && l.Until <= lastMoment
}

// readTags: what chapter 8 says of tags.
func readTags(list []api.Tag) bool {
	for i, tag := range list {
		named := 1 <= len(tag.Name) && len(tag.Name) <= 64 && readText(tag.Name)
		valued := len(tag.Value) <= 64 && readText(tag.Value)
		rises := i == 0 || list[i-1].Name < tag.Name
		if !named || !valued || !rises {
			return false
		}
	}
	return len(list) <= 8
}

// readGood: what the chapter's words say of a version.
func readGood(v api.Version) bool {
	if v.ID < 1 || v.Created < firstMoment || v.Created > lastMoment {
		return false
	}
	if v.Marker {
		return v.Size == 0 && v.Blob == 0 && v.Digest == [32]byte{} && v.Lock == api.Lock{} && len(v.Tags) == 0
	}
	return v.Size >= 0 && v.Size <= mostBytes && v.Blob >= 1 && readLock(v.Lock) && readTags(v.Tags)
}

// readSound: what the chapter's words say of an object.
func readSound(o api.Object) bool {
	for i, v := range o.Versions {
		if !readGood(v) {
			return false
		}
		for _, ahead := range o.Versions[:i] {
			if v.ID <= ahead.ID || v.Created < ahead.Created {
				return false
			}
		}
	}
	return readKey(o.Key) && len(o.Versions) >= 1
}

// readFind: P13.1 once more; Latest too, if last is set.
func readFind(o api.Object, id uint64, last bool) (api.Version, api.Errno) {
	if !readSound(o) {
		return api.Version{}, api.ErrForm
	}
	found, e := api.Version{}, api.ErrNone
	for _, v := range o.Versions {
		if last || v.ID == id {
			found, e = v, api.OK
		}
	}
	return found, e
}

// readReplaced: P13.1 once more.
func readReplaced(o api.Object, id uint64) (int64, bool) {
	if !readSound(o) {
		return 0, false
	}
	for i := 1; i < len(o.Versions); i++ {
		if o.Versions[i-1].ID == id {
			return o.Versions[i].Created, true
		}
	}
	return 0, false
}

// readAdd: P13.2 once more.
func readAdd(o api.Object, v api.Version) (api.Object, api.Errno) {
	right := readSound(o) || len(o.Versions) == 0 && readKey(o.Key)
	if !right || !readGood(v) {
		return api.Object{}, api.ErrForm
	}
	for _, w := range o.Versions {
		if v.ID <= w.ID || v.Created < w.Created {
			return api.Object{}, api.ErrOrder
		}
	}
	return api.Object{Key: o.Key, Versions: append(slices.Clone(o.Versions), v)}, api.OK
}

// readErase: P13.2 once more.
func readErase(o api.Object, id uint64) (api.Object, api.Errno) {
	if !readSound(o) {
		return api.Object{}, api.ErrForm
	}
	left := slices.DeleteFunc(slices.Clone(o.Versions), func(v api.Version) bool { return v.ID == id })
	if len(left) == len(o.Versions) {
		return api.Object{}, api.ErrNone
	}
	return api.Object{Key: o.Key, Versions: left}, api.OK
}

// readChange: P13.2 once more.
func readChange(o api.Object, v api.Version) (api.Object, api.Errno) {
	if !readSound(o) || !readGood(v) {
		return api.Object{}, api.ErrForm
	}
	for i, w := range o.Versions {
		switch {
		case w.ID == v.ID && w.Created != v.Created:
			return api.Object{}, api.ErrOrder
		case w.ID == v.ID:
			list := slices.Clone(o.Versions)
			list[i] = v
			return api.Object{Key: o.Key, Versions: list}, api.OK
		}
	}
	return api.Object{}, api.ErrNone
}

// plainVersion: a version of which an empty list is none.
func plainVersion(v api.Version) api.Version {
	if len(v.Tags) == 0 {
		v.Tags = nil
	}
	return v
}

// plain: an object in which each empty list is none; it shares nothing with the other one.
func plain(o api.Object) api.Object {
	p := api.Object{Key: o.Key}
	for _, v := range o.Versions {
		v.Tags = slices.Clone(v.Tags)
		p.Versions = append(p.Versions, plainVersion(v))
	}
	return p
}

// equal: are two objects, two versions or two numbers the same? Empty lists are none.
func equal(a, b any) bool {
	switch x := a.(type) {
	case api.Object:
		return reflect.DeepEqual(plain(x), plain(b.(api.Object)))
	case api.Version:
		return reflect.DeepEqual(plainVersion(x), plainVersion(b.(api.Version)))
	}
	return a == b
}

// oneAsRead fails if what is asked of one object, and a number, is answered otherwise than the second reading says.
func oneAsRead(t *testing.T, o api.Object, id uint64) {
	t.Helper()
	was := plain(o)
	if got, want := Sound(o), readSound(o); got != want {
		t.Fatalf("Sound(%v): %v", o, got)
	}
	got, e := Find(o, id)
	if want, wantE := readFind(o, id, false); !equal(got, want) || e != wantE {
		t.Fatalf("Find(%v, %d): %v, %d, not %v, %d", o, id, got, e, want, wantE)
	}
	got, e = Latest(o)
	if want, wantE := readFind(o, id, true); !equal(got, want) || e != wantE {
		t.Fatalf("Latest(%v): %v, %d, not %v, %d", o, got, e, want, wantE)
	}
	at, ok := Replaced(o, id)
	if want, wantOK := readReplaced(o, id); at != want || ok != wantOK {
		t.Fatalf("Replaced(%v, %d): %d, %v, not %d, %v", o, id, at, ok, want, wantOK)
	}
	left, e := Erase(o, id)
	if want, wantE := readErase(o, id); !equal(left, want) || e != wantE {
		t.Fatalf("Erase(%v, %d): %v, %d, not %v, %d", o, id, left, e, want, wantE)
	}
	if !equal(o, was) {
		t.Fatalf("%v became %v", was, o)
	}
}

// withAsRead fails if what is asked of an object and a version is answered otherwise than the second reading says.
func withAsRead(t *testing.T, o api.Object, v api.Version) {
	t.Helper()
	was, wasV := plain(o), plain(api.Object{Versions: []api.Version{v}}).Versions[0]
	if got, want := Good(v), readGood(v); got != want {
		t.Fatalf("Good(%v): %v", v, got)
	}
	got, e := Add(o, v)
	if want, wantE := readAdd(o, v); !equal(got, want) || e != wantE {
		t.Fatalf("Add(%v, %v): %v, %d, not %v, %d", o, v, got, e, want, wantE)
	}
	got, e = Change(o, v)
	if want, wantE := readChange(o, v); !equal(got, want) || e != wantE {
		t.Fatalf("Change(%v, %v): %v, %d, not %v, %d", o, v, got, e, want, wantE)
	}
	if !equal(o, was) || !equal(v, wasV) {
		t.Fatalf("%v became %v, or %v became %v", was, o, wasV, v)
	}
}

// version: one with some bytes.
func version(id uint64, created int64) api.Version {
	return api.Version{ID: id, Created: created, Size: 3, Blob: id + 9, Digest: api.Digest{byte(id)}}
}

// marker: one that is a mark.
func marker(id uint64, created int64) api.Version {
	return api.Version{ID: id, Created: created, Marker: true}
}

// full: a version that has everything.
func full(id uint64, created int64) api.Version {
	v := version(id, created)
	v.Lock = api.Lock{Mode: 2, Until: 100, Hold: true}
	v.Tags = []api.Tag{{Name: "a", Value: "1"}, {Name: "b", Value: "2"}}
	return v
}

// object: one of versions.
func object(versions ...api.Version) api.Object {
	return api.Object{Key: "k", Versions: versions}
}

// change: a version in which one thing is another one.
func change(v api.Version, do func(*api.Version)) api.Version {
	do(&v)
	return v
}

// faults are single things by which a good version, be it a mark or not, is not good any more.
var faults = []func(*api.Version){
	func(v *api.Version) { v.ID = 0 },
	func(v *api.Version) { v.Created = firstMoment - 1 },
	func(v *api.Version) { v.Created = lastMoment + 1 },
	func(v *api.Version) { v.Created = math.MinInt64 },
	func(v *api.Version) { v.Created = math.MaxInt64 },
	func(v *api.Version) { v.Size = -1 },
	func(v *api.Version) { v.Size = mostBytes + 1 },
	func(v *api.Version) { v.Size = math.MinInt },
	func(v *api.Version) { v.Size = math.MaxInt },
	func(v *api.Version) {
		v.Blob = 0
		if v.Marker {
			v.Blob = 1
		}
	},
	func(v *api.Version) { v.Lock = api.Lock{Mode: 3} },
	func(v *api.Version) { v.Lock = api.Lock{Until: 1} },
	func(v *api.Version) { v.Lock = api.Lock{Mode: -1, Hold: true} },
	func(v *api.Version) { v.Lock = api.Lock{Mode: 1, Until: lastMoment + 1} },
	func(v *api.Version) { v.Lock = api.Lock{Mode: 2, Until: firstMoment - 1} },
	func(v *api.Version) { v.Tags = []api.Tag{{Value: "v"}} },
	func(v *api.Version) { v.Tags = []api.Tag{{Name: "a"}, {Name: "a"}} },
	func(v *api.Version) { v.Tags = []api.Tag{{Name: "b"}, {Name: "a"}} },
	func(v *api.Version) { v.Tags = []api.Tag{{Name: "a", Value: "\x7f"}} },
	func(v *api.Version) { v.Tags = manyTags(9) },
}

func TestGood(t *testing.T) {
	for i, v := range []api.Version{
		version(1, 0), version(math.MaxUint64, 0), version(1, firstMoment), version(1, lastMoment), version(1, -1), full(1, 5),
		marker(1, 0), marker(math.MaxUint64, lastMoment), marker(2, firstMoment), {ID: 1, Marker: true, Tags: []api.Tag{}},
		{ID: 1, Blob: 1}, {ID: 1, Blob: 1, Size: mostBytes}, {ID: 1, Blob: 1, Size: mostBytes - 1}, {ID: 1, Blob: math.MaxUint64},
		{ID: 1, Blob: 1, Tags: []api.Tag{}}, {ID: 1, Blob: 1, Tags: manyTags(8)}, {ID: 1, Blob: 1, Lock: api.Lock{Hold: true}},
		{ID: 1, Blob: 1, Lock: api.Lock{Mode: 1, Until: lastMoment}}, {ID: 1, Blob: 1, Lock: api.Lock{Mode: 2, Until: firstMoment, Hold: true}},
		// A lock may be until a moment ahead of the version, and the digest is any one.
		{ID: 1, Blob: 1, Created: 100, Lock: api.Lock{Mode: 2, Until: 1}}, {ID: 1, Blob: 1, Digest: api.Digest{31: 7}},
	} {
		if !Good(v) {
			t.Errorf("%d: %v is not good", i, v)
		}
	}
	for i, v := range []api.Version{{}, {ID: 1}, {Blob: 1}, {Marker: true}, {ID: 1, Size: 3}, {ID: 1, Digest: api.Digest{1}}} {
		if Good(v) {
			t.Errorf("%d: %v is good", i, v)
		}
	}
	for i, fault := range faults {
		for _, good := range []api.Version{version(4, 5), full(4, 5), marker(4, 5)} {
			if v := change(good, fault); !Good(good) || Good(v) {
				t.Errorf("%d: of %v, %v is good", i, good, v)
			}
		}
	}
}

// A mark has nothing but its number and its moment.
func TestMarkers(t *testing.T) {
	for i, do := range []func(*api.Version){
		func(v *api.Version) { v.Size = 1 },
		func(v *api.Version) { v.Size = -1 },
		func(v *api.Version) { v.Blob = 1 },
		func(v *api.Version) { v.Digest[0] = 1 },
		func(v *api.Version) { v.Digest[31] = 1 },
		func(v *api.Version) { v.Lock.Mode = 1 },
		func(v *api.Version) { v.Lock.Until = 1 },
		func(v *api.Version) { v.Lock.Hold = true },
		func(v *api.Version) { v.Lock = api.Lock{Mode: 2, Until: 5} },
		func(v *api.Version) { v.Tags = []api.Tag{{Name: "a"}} },
		func(v *api.Version) { v.Tags = []api.Tag{{}} },
		func(v *api.Version) { v.Size, v.Blob = 1, 1 },
	} {
		if v := change(marker(3, 4), do); Good(v) || Sound(object(v)) {
			t.Errorf("%d: %v is good", i, v)
		}
	}
}

func TestSound(t *testing.T) {
	a, b, c := full(2, 5), marker(4, 5), version(7, 9)
	for i, o := range []api.Object{
		object(a), object(b), object(a, b), object(a, b, c), object(marker(1, 0), marker(2, 0)), object(version(1, 0), version(math.MaxUint64, 0)),
		object(version(1, firstMoment), version(2, lastMoment)), {Key: longKey, Versions: []api.Version{a}}, {Key: "ä€𝄞", Versions: []api.Version{c}},
	} {
		if !Sound(o) {
			t.Errorf("%d: %v is not sound", i, o)
		}
	}
	for i, o := range []api.Object{
		{}, {Key: "k"}, {Key: "k", Versions: []api.Version{}}, {Versions: []api.Version{a}}, {Key: longKey + "k", Versions: []api.Version{a}},
		{Key: "a\x1f", Versions: []api.Version{a}}, {Key: "\xff", Versions: []api.Version{a}}, {Key: "\x7f", Versions: []api.Version{a}},
		// Numbers that stay the same, and fall; moments that fall.
		object(a, a), object(a, marker(2, 5)), object(b, a), object(a, b, version(3, 9)), object(a, b, version(4, 9)), object(c, version(6, 9)),
		object(a, version(4, 4)), object(a, b, version(7, 4)), object(version(1, 9), c, version(8, 8)), object(version(1, lastMoment), version(2, firstMoment)),
		object(version(math.MaxUint64, 0), version(1, 0)),
		// One that is not good, at each place.
		object(api.Version{}), object(version(0, 5), b, c), object(a, version(4, 5), api.Version{ID: 7, Created: 9}), object(a, api.Version{ID: 4, Created: 5}, c),
	} {
		if Sound(o) {
			t.Errorf("%d: %v is sound", i, o)
		}
	}
}

// All but Good, Sound and Same refuse what is not sound ahead of all else.
func TestForm(t *testing.T) {
	good := object(full(2, 5), marker(4, 5), version(7, 9))
	wrong := []api.Object{{}, {Key: "k"}, {Key: "", Versions: good.Versions}, object(good.Versions[0], good.Versions[0]), object(good.Versions[2], good.Versions[0])}
	for i := range good.Versions {
		for _, fault := range faults {
			o := plain(good)
			fault(&o.Versions[i])
			wrong = append(wrong, o)
		}
	}
	for i, o := range wrong {
		for _, id := range []uint64{0, 2, 4, 5, 7, 8} {
			v, e := Find(o, id)
			if !equal(v, api.Version{}) || e != api.ErrForm {
				t.Errorf("%d: Find %d: %v, %d", i, id, v, e)
			}
			if at, ok := Replaced(o, id); at != 0 || ok {
				t.Errorf("%d: Replaced %d: %d, %v", i, id, at, ok)
			}
			if left, e := Erase(o, id); !equal(left, api.Object{}) || e != api.ErrForm {
				t.Errorf("%d: Erase %d: %v, %d", i, id, left, e)
			}
			// Whether there is one, and when it was created, is asked behind this.
			if with, e := Change(o, version(id+1, 6)); !equal(with, api.Object{}) || e != api.ErrForm {
				t.Errorf("%d: Change %d: %v, %d", i, id+1, with, e)
			}
		}
		if v, e := Latest(o); !equal(v, api.Version{}) || e != api.ErrForm {
			t.Errorf("%d: Latest: %v, %d", i, v, e)
		}
		for _, v := range []api.Version{version(8, 9), version(7, 9), version(8, 8), {}} {
			if with, e := Add(o, v); len(o.Versions) > 0 && (!equal(with, api.Object{}) || e != api.ErrForm) {
				t.Errorf("%d: Add %v: %v, %d", i, v, with, e)
			}
		}
	}
	for i, fault := range faults {
		// Each of these would be refused for another reason, or not at all, if it were good.
		for _, v := range []api.Version{version(8, 9), full(8, 9), marker(8, 9), version(7, 8), version(5, 3), full(2, 5), marker(4, 5), marker(4, 6)} {
			fault(&v)
			for _, o := range []api.Object{good, {Key: "k"}} {
				if with, e := Add(o, v); !equal(with, api.Object{}) || e != api.ErrForm {
					t.Errorf("%d: Add %v: %v, %d", i, v, with, e)
				}
				if with, e := Change(o, v); !equal(with, api.Object{}) || e != api.ErrForm {
					t.Errorf("%d: Change %v: %v, %d", i, v, with, e)
				}
			}
		}
	}
}

func TestFind(t *testing.T) {
	a, b, c := full(2, 5), marker(4, 5), version(7, 9)
	three, one := object(a, b, c), object(version(math.MaxUint64, 3))
	for _, want := range three.Versions {
		if v, e := Find(three, want.ID); !equal(v, want) || e != api.OK {
			t.Errorf("Find %d: %v, %d", want.ID, v, e)
		}
	}
	if v, e := Find(one, math.MaxUint64); !equal(v, one.Versions[0]) || e != api.OK {
		t.Errorf("Find: %v, %d", v, e)
	}
	for _, id := range []uint64{0, 1, 3, 5, 6, 8, math.MaxUint64} {
		if v, e := Find(three, id); !equal(v, api.Version{}) || e != api.ErrNone {
			t.Errorf("Find %d: %v, %d", id, v, e)
		}
		if left, e := Erase(three, id); !equal(left, api.Object{}) || e != api.ErrNone {
			t.Errorf("Erase %d: %v, %d", id, left, e)
		}
		if at, ok := Replaced(three, id); at != 0 || ok {
			t.Errorf("Replaced %d: %d, %v", id, at, ok)
		}
	}
	for i := range three.Versions {
		if v, e := Latest(object(three.Versions[:i+1]...)); !equal(v, three.Versions[i]) || e != api.OK {
			t.Errorf("Latest of %d: %v, %d", i+1, v, e)
		}
	}
}

func TestReplaced(t *testing.T) {
	o := object(full(2, -5), marker(4, 0), version(7, 0), version(8, lastMoment))
	for i, c := range []struct {
		id uint64
		at int64
		ok bool
	}{{2, 0, true}, {4, 0, true}, {7, lastMoment, true}, {8, 0, false}, {3, 0, false}, {9, 0, false}, {0, 0, false}} {
		if at, ok := Replaced(o, c.id); at != c.at || ok != c.ok {
			t.Errorf("%d: Replaced %d: %d, %v", i, c.id, at, ok)
		}
	}
	if at, ok := Replaced(object(version(3, 7)), 3); at != 0 || ok {
		t.Errorf("Replaced of the only one: %d, %v", at, ok)
	}
}

func TestAdd(t *testing.T) {
	a, b := full(2, 5), marker(4, 9)
	two := object(a, b)
	for i, c := range []struct {
		v api.Version
		e api.Errno
	}{
		{version(5, 9), 0}, {version(5, 10), 0}, {full(6, 9), 0}, {marker(5, 9), 0}, {version(math.MaxUint64, lastMoment), 0},
		{version(4, 9), 18}, {version(3, 9), 18}, {version(3, 10), 18}, {version(4, 10), 18}, {version(2, 5), 18}, {version(1, 9), 18},
		{version(5, 8), 18}, {full(5, 5), 18}, {marker(5, 8), 18}, {version(3, 7), 18}, {b, 18}, {marker(5, firstMoment), 18},
		{version(5, lastMoment+1), 2}, {version(0, 9), 2}, {version(4, firstMoment-1), 2}, {api.Version{ID: 4, Created: 8}, 2},
	} {
		want := api.Object{}
		if c.e == api.OK {
			want = object(a, b, c.v)
		}
		if o, e := Add(two, c.v); !equal(o, want) || e != c.e || c.e == api.OK && !Sound(o) {
			t.Errorf("%d: Add %v: %v, %d", i, c.v, o, e)
		}
	}
	top := object(version(math.MaxUint64, lastMoment))
	if o, e := Add(top, version(math.MaxUint64, lastMoment)); !equal(o, api.Object{}) || e != api.ErrOrder {
		t.Errorf("Add behind the greatest number: %v, %d", o, e)
	}
}

// An object without versions takes any good one, if its Key is a key.
func TestAddFirst(t *testing.T) {
	for _, key := range keys {
		for _, v := range []api.Version{full(1, firstMoment), marker(math.MaxUint64, 0), {}} {
			for _, none := range [][]api.Version{nil, {}} {
				want, wantE := api.Object{}, api.ErrForm
				if readKey(key) && readGood(v) {
					want, wantE = api.Object{Key: key, Versions: []api.Version{v}}, api.OK
				}
				if o, e := Add(api.Object{Key: key, Versions: none}, v); !equal(o, want) || e != wantE {
					t.Errorf("Add to %q: %v, %d", key, o, e)
				}
			}
		}
	}
}

// There is no bound for how many versions an object has.
func TestAddMany(t *testing.T) {
	o := api.Object{Key: "k"}
	for i := range api.MaxVersions + 3 {
		with, e := Add(o, version(uint64(i+1), int64(i/2)))
		if e != api.OK || len(with.Versions) != i+1 {
			t.Fatalf("Add %d: %d versions, %d", i, len(with.Versions), e)
		}
		o = with
	}
}

func TestErase(t *testing.T) {
	a, b, c := full(2, 5), marker(4, 5), version(7, 9)
	three := object(a, b, c)
	for i, want := range []api.Object{object(b, c), object(a, c), object(a, b)} {
		if o, e := Erase(three, three.Versions[i].ID); !equal(o, want) || e != api.OK || !Sound(o) {
			t.Errorf("Erase %d: %v, %d", i, o, e)
		}
	}
	for _, v := range three.Versions {
		o, e := Erase(object(v), v.ID)
		if o.Key != "k" || len(o.Versions) != 0 || e != api.OK {
			t.Errorf("Erase the only one: %v, %d", o, e)
		}
		// What is left is no object till something is added again, be it with a lower number.
		if again, e := Add(o, version(1, 1)); !equal(again, object(version(1, 1))) || e != api.OK {
			t.Errorf("Add behind Erase: %v, %d", again, e)
		}
	}
}

func TestChange(t *testing.T) {
	a, b, c := full(2, 5), marker(4, 5), version(7, 9)
	three := object(a, b, c)
	for i := range three.Versions {
		id, created := three.Versions[i].ID, three.Versions[i].Created
		for _, v := range []api.Version{version(id, created), full(id, created), marker(id, created), three.Versions[i]} {
			want := plain(three)
			want.Versions[i] = v
			if o, e := Change(three, v); !equal(o, want) || e != api.OK || !Sound(o) {
				t.Errorf("Change %v: %v, %d", v, o, e)
			}
			v.Created++
			if o, e := Change(three, v); !equal(o, api.Object{}) || e != api.ErrOrder {
				t.Errorf("Change %v: %v, %d", v, o, e)
			}
			v.Created -= 2
			if o, e := Change(three, v); !equal(o, api.Object{}) || e != api.ErrOrder {
				t.Errorf("Change %v: %v, %d", v, o, e)
			}
		}
	}
	// Moments, the right ones too, don't count where there is no such number.
	for _, id := range []uint64{1, 3, 5, 6, 8, math.MaxUint64} {
		for _, created := range []int64{4, 5, 9, 10} {
			if o, e := Change(three, version(id, created)); !equal(o, api.Object{}) || e != api.ErrNone {
				t.Errorf("Change %d: %v, %d", id, o, e)
			}
		}
	}
	only := object(full(3, 3))
	if o, e := Change(only, marker(3, 3)); !equal(o, object(marker(3, 3))) || e != api.OK {
		t.Errorf("Change the only one: %v, %d", o, e)
	}
}

func TestSame(t *testing.T) {
	o := object(full(2, 5), marker(4, 5), full(7, 9))
	if !Same(o, o) || !Same(o, plain(o)) || !Same(api.Object{}, api.Object{}) || !Same(api.Object{Key: "\xff"}, api.Object{Key: "\xff", Versions: []api.Version{}}) {
		t.Error("what is the same is not")
	}
	others := []api.Object{{}, {Key: "k"}, {Key: "K", Versions: o.Versions}, {Versions: o.Versions}, object(o.Versions[:2]...), object(o.Versions[1:]...)}
	others = append(others, object(o.Versions[0], o.Versions[2], o.Versions[1]), object(append(plain(o).Versions, full(8, 9))...), object(append(plain(o).Versions, api.Version{})...))
	for i := range o.Versions {
		for _, do := range []func(*api.Version){
			func(v *api.Version) { v.ID++ },
			func(v *api.Version) { v.Marker = !v.Marker },
			func(v *api.Version) { v.Size++ },
			func(v *api.Version) { v.Blob++ },
			func(v *api.Version) { v.Digest[0]++ },
			func(v *api.Version) { v.Digest[31]++ },
			func(v *api.Version) { v.Created++ },
			func(v *api.Version) { v.Lock.Mode = 7 },
			func(v *api.Version) { v.Lock.Until++ },
			func(v *api.Version) { v.Lock.Hold = !v.Lock.Hold },
			func(v *api.Version) { v.Tags = append(v.Tags, api.Tag{Name: "c"}) },
			func(v *api.Version) { v.Tags = append(v.Tags, api.Tag{}) },
			func(v *api.Version) { v.Tags = append([]api.Tag{{Name: "b", Value: "2"}}, v.Tags...) },
		} {
			with := plain(o)
			do(&with.Versions[i])
			others = append(others, with)
		}
	}
	for _, i := range []int{0, 2} {
		for _, list := range [][]api.Tag{
			nil, {{Name: "a", Value: "1"}}, {{Name: "b", Value: "2"}}, {{Name: "b", Value: "2"}, {Name: "a", Value: "1"}},
			{{Name: "A", Value: "1"}, {Name: "b", Value: "2"}}, {{Name: "a", Value: "1"}, {Name: "b", Value: "3"}}, {{Name: "a", Value: "1"}, {Name: "b"}},
		} {
			with := plain(o)
			with.Versions[i].Tags = list
			others = append(others, with)
		}
	}
	for i, other := range others {
		if Same(o, other) || Same(other, o) || !Same(other, other) || !Same(other, plain(other)) {
			t.Errorf("%d: %v is the same", i, other)
		}
	}
	// No list of tags is as good as an empty one.
	one, two := marker(1, 2), marker(1, 2)
	one.Tags = []api.Tag{}
	if !Same(object(one), object(two)) || !Same(object(two), object(one)) {
		t.Error("an empty list is another one than none")
	}
}

// roomy: an object whose lists have room to spare, which is full of something; the rooms stand with it.
func roomy(o api.Object) api.Object {
	rest := full(99, 99)
	p := api.Object{Key: o.Key, Versions: make([]api.Version, 0, len(o.Versions)+3)}
	for _, v := range o.Versions {
		v.Tags = append(make([]api.Tag, 0, len(v.Tags)+3), v.Tags...)
		copy(v.Tags[len(v.Tags):cap(v.Tags)], []api.Tag{{Name: "x"}, {Name: "y"}, {Name: "z"}})
		p.Versions = append(p.Versions, v)
	}
	for i := len(o.Versions); i < cap(p.Versions); i++ {
		p.Versions[:cap(p.Versions)][i] = rest
	}
	return p
}

// everything: an object with all that its lists have room for.
func everything(o api.Object) api.Object {
	p := api.Object{Key: o.Key}
	for _, v := range o.Versions[:cap(o.Versions)] {
		v.Tags = slices.Clone(v.Tags[:cap(v.Tags)])
		p.Versions = append(p.Versions, v)
	}
	return p
}

// spoil changes all that an object's lists have, and what they have room for.
func spoil(o api.Object) {
	versions := o.Versions[:cap(o.Versions)]
	for i := range versions {
		list := versions[i].Tags[:cap(versions[i].Tags)]
		for j := range list {
			list[j] = api.Tag{Name: "spoilt", Value: "spoilt"}
		}
		versions[i] = api.Version{Size: -7, Digest: api.Digest{7}}
	}
}

// answers: what the calls that answer objects or versions answer, as objects.
func answers(o api.Object, v api.Version) []api.Object {
	var all []api.Object
	single := func(v api.Version, e api.Errno) { all = append(all, object(v)) }
	whole := func(o api.Object, e api.Errno) { all = append(all, o) }
	for _, w := range append([]api.Version{v}, o.Versions...) {
		single(Find(o, w.ID))
		whole(Erase(o, w.ID))
		v.ID, v.Created = w.ID, w.Created
		whole(Change(o, v))
	}
	single(Latest(o))
	v.ID, v.Created = 50, 50
	whole(Add(o, v))
	whole(Add(api.Object{Key: o.Key}, v))
	return all
}

// What is handed in stays as it is, with what its lists have room for; what is answered is new, and no two answers share anything.
func TestMemory(t *testing.T) {
	for _, o := range []api.Object{
		object(full(2, 5)), object(full(2, 5), marker(4, 5), full(7, 9)), object(version(1, 0), full(3, 3)), object(marker(1, 1)),
		object(full(2, 5), full(3, 5), full(4, 5), full(5, 5), full(6, 5)),
	} {
		given := roomy(o)
		v := roomy(object(full(60, 60))).Versions[0]
		was, wasV := everything(given), everything(object(v))
		Good(v)
		Sound(given)
		Same(given, given)
		Replaced(given, 2)
		first, second := answers(given, v), answers(given, v)
		var want []api.Object
		for i := range second {
			want = append(want, plain(second[i]))
		}
		for i := range first {
			spoil(first[i])
		}
		if !reflect.DeepEqual(everything(given), was) || !reflect.DeepEqual(everything(object(v)), wasV) {
			t.Errorf("what was handed in became %v, %v", everything(given), v)
		}
		spoil(given)
		spoil(object(v))
		for i := range second {
			if !equal(second[i], want[i]) {
				t.Errorf("%d: %v became %v", i, want[i], second[i])
			}
			// The lists of one answer, one by one: none has room that another one is in.
			for j := range second[i].Versions {
				if list := second[i].Versions[j].Tags; len(list) > 0 {
					list = append(list[:0], make([]api.Tag, cap(list))...)
					want[i].Versions[j].Tags = list
				}
				if !equal(second[i], want[i]) {
					t.Errorf("%d: lists of %v share something", i, second[i])
				}
			}
		}
	}
}

// All rows of up to three versions out of some, with numbers and moments that rise, fall and stay.
func TestAllShort(t *testing.T) {
	var some []api.Version
	for _, id := range []uint64{0, 1, 2, 3} {
		for _, created := range []int64{0, 1, 2} {
			some = append(some, marker(id, created), full(id, created))
		}
	}
	rows := []api.Object{object()}
	for _, a := range some {
		rows = append(rows, object(a))
		for _, b := range some {
			rows = append(rows, object(a, b))
			for _, c := range some {
				if a.Marker == b.Marker {
					rows = append(rows, object(a, b, c))
				}
			}
		}
	}
	for _, o := range rows {
		for id := range uint64(5) {
			oneAsRead(t, o, id)
		}
		for _, v := range some {
			withAsRead(t, o, v)
		}
	}
}

// drawVersion: any version; mostly it is good, and near to others.
func drawVersion(r *rand.Rand, id uint64, created int64) api.Version {
	v := api.Version{ID: id, Created: created}
	if r.Intn(4) == 0 {
		v.Marker = true
	} else {
		v.Size, v.Blob, v.Digest = r.Intn(mostBytes+1), r.Uint64()>>r.Intn(64), api.Digest{byte(r.Int())}
		v.Lock, v.Tags = locks[r.Intn(7)], slices.Clone(tagLists[r.Intn(6)])
	}
	if r.Intn(12) == 0 {
		faults[r.Intn(len(faults))](&v)
	}
	if r.Intn(20) == 0 {
		v.Lock, v.Tags = locks[r.Intn(len(locks))], tagLists[r.Intn(len(tagLists))]
	}
	return v
}

// drawObject: any object; mostly it is sound.
func drawObject(r *rand.Rand) api.Object {
	o := api.Object{Key: keys[r.Intn(7)]}
	if r.Intn(10) == 0 {
		o.Key = keys[r.Intn(len(keys))]
	}
	id, created := uint64(0), int64(0)
	for range r.Intn(6) {
		id, created = id+1+uint64(r.Intn(2)), created+r.Int63n(2)
		if r.Intn(30) == 0 {
			id, created = id-uint64(r.Intn(3)), created-r.Int63n(3)
		}
		o.Versions = append(o.Versions, drawVersion(r, id, created))
	}
	return o
}

func TestDrawn(t *testing.T) {
	r := rand.New(rand.NewSource(13))
	sound := 0
	for range 60000 {
		o, other := drawObject(r), drawObject(r)
		id := uint64(r.Intn(8))
		oneAsRead(t, o, id)
		withAsRead(t, o, drawVersion(r, id, r.Int63n(6)))
		if readSound(o) {
			sound++
			last := o.Versions[len(o.Versions)-1]
			withAsRead(t, o, drawVersion(r, last.ID+1, last.Created))
			withAsRead(t, o, drawVersion(r, last.ID, last.Created))
		}
		if got, want := Same(o, other), equal(o, other); got != want || !Same(o, plain(o)) {
			t.Fatalf("Same(%v, %v): %v", o, other, got)
		}
	}
	if sound < 10000 {
		t.Fatalf("only %d objects are sound", sound)
	}
}
