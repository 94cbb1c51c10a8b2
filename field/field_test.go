package field

import (
	"math"
	"slices"
	"strings"
	"testing"

	"millpond/api"
	"millpond/arena"
	"millpond/view"
)

// far: numbers that are no field, no place and no count in any of these tests.
var far = []int{math.MinInt, math.MinInt + 1, -api.Page, -2, -1, 3 * api.Page, api.Most, math.MaxInt - 1, math.MaxInt}

// is: a test ends, if an error is another one than was wanted.
func is(t *testing.T, what string, got, wanted api.Errno) {
	t.Helper()
	if got != wanted {
		t.Fatalf("%s: error %d, wanted %d", what, got, wanted)
	}
}

// two: an arena of the cap 3, whose pages 0 and 1 are committed, and full of dots.
func two(t *testing.T) *arena.Arena {
	t.Helper()
	a := arena.New(3)
	is(t, "Commit", a.Commit(0, 2), api.OK)
	is(t, "Fill", a.Fill(0, 2*api.Page, '.'), api.OK)
	return a
}

// part: a view that is there.
func part(t *testing.T, a *arena.Arena, at, size int) view.View {
	t.Helper()
	v, e := view.Of(a, at, size)
	is(t, "view.Of", e, api.OK)
	return v
}

// record: one that may be.
func record(t *testing.T, widths ...int) Record {
	t.Helper()
	r, e := Of(widths...)
	is(t, "Of", e, api.OK)
	return r
}

// tells: do both pages of an arena of two tell dots, but for some bytes?
func tells(t *testing.T, what string, a *arena.Arena, at int, wanted string) {
	t.Helper()
	got, e := a.Bytes(0, 2*api.Page)
	all := strings.Repeat(".", at) + wanted + strings.Repeat(".", 2*api.Page-at-len(wanted))
	if e != api.OK || got != all {
		t.Fatalf("%s: the arena tells other bytes than it should, error %d", what, e)
	}
}

// most: the greatest number of so many bytes.
func most(width int) uint64 {
	return math.MaxUint64 >> (64 - 8*width)
}

// widest: widths of a record with so many fields, of all kinds.
func widest(n int) []int {
	widths := make([]int, n)
	for i := range widths {
		widths[i] = 1 << (i % 4)
	}
	return widths
}

func TestOf(t *testing.T) {
	for _, widths := range [][]int{{1}, {2}, {4}, {8}, {1, 2, 8}, {8, 1, 8, 1}, {1, 1, 1, 1}, widest(31), widest(32), slices.Repeat([]int{8}, 32)} {
		r := record(t, widths...)
		place := 0
		for i, width := range widths {
			if r.At(i) != place {
				t.Errorf("of %v At(%d): %d, wanted %d", widths, i, r.At(i), place)
			}
			place += width
		}
		if r.Len() != len(widths) || r.Size() != place {
			t.Errorf("of %v: %d fields, %d bytes", widths, r.Len(), r.Size())
		}
		for _, i := range append(far, len(widths), len(widths)+1, 32, 33) {
			if r.At(i) != 0 {
				t.Errorf("of %v At(%d): %d", widths, i, r.At(i))
			}
		}
	}
	if r := record(t, 1, 2, 8); r.At(2) != 3 || r.Size() != 11 || r.At(3) != 0 {
		t.Errorf("Of(1, 2, 8): field 2 at %d, %d bytes, field 3 at %d", r.At(2), r.Size(), r.At(3))
	}
}

func TestOfRefuses(t *testing.T) {
	refused := func(wanted api.Errno, widths ...int) {
		t.Helper()
		r, e := Of(widths...)
		if e != wanted || r.Len() != 0 || r.Size() != 0 || r.At(0) != 0 || r.At(1) != 0 {
			t.Errorf("Of(%v): %d fields, %d bytes, error %d, wanted %d", widths, r.Len(), r.Size(), e, wanted)
		}
	}
	refused(api.ErrEmpty)
	refused(api.ErrEmpty, []int{}...)
	refused(api.ErrMany, widest(33)...)
	refused(api.ErrMany, widest(1000)...)
	refused(api.ErrMany, make([]int, 33)...)
	refused(api.ErrArg, make([]int, 32)...)
	for _, width := range append(far, 0, 3, 5, 6, 7, 9, 16, 64) {
		refused(api.ErrArg, width)
		refused(api.ErrArg, 1, 2, width)
		refused(api.ErrArg, width, 4, 8)
		refused(api.ErrArg, append(widest(31), width)...)
	}
}

func TestRecordStays(t *testing.T) {
	widths := []int{1, 2, 8, 4}
	r := record(t, widths[:3]...)
	if !slices.Equal(widths, []int{1, 2, 8, 4}) {
		t.Errorf("the widths are %v", widths)
	}
	clear(widths)
	if r.Len() != 3 || r.Size() != 11 || r.At(1) != 1 || r.At(2) != 3 {
		t.Error("a record goes with the widths that it was made of")
	}
}

func TestFieldsLieOneBehindTheOther(t *testing.T) {
	a := two(t)
	v := part(t, a, 100, 15)
	r := record(t, 1, 2, 8, 4)
	is(t, "Put", r.Put(v, 0x11, 0x2221, 0x3837363534333231, 0x44434241), api.OK)
	tells(t, "Put", a, 100, "\x11\x21\x2212345678ABCD")
	is(t, "Set", r.Set(v, 1, 0x6261), api.OK)
	is(t, "Set", r.Set(v, 3, 0), api.OK)
	tells(t, "Set", a, 100, "\x11ab12345678\x00\x00\x00\x00")
	for i, wanted := range []uint64{0x11, 0x6261, 0x3837363534333231, 0} {
		if x, e := r.Get(v, i); x != wanted || e != api.OK {
			t.Errorf("Get(%d): %x, error %d", i, x, e)
		}
	}
	if nums, e := r.All(v); e != api.OK || !slices.Equal(nums, []uint64{0x11, 0x6261, 0x3837363534333231, 0}) {
		t.Errorf("All: %x, error %d", nums, e)
	}
}

func TestWhatWasPutIsTold(t *testing.T) {
	for _, n := range []int{1, 2, 4, 7, 31, 32} {
		widths := widest(n)
		r := record(t, widths...)
		// Across two pages: what is laid in one of them, and in the other one, is one record.
		a := two(t)
		v := part(t, a, api.Page-r.Size()/2, r.Size())
		nums := make([]uint64, n)
		for i, width := range widths {
			nums[i] = most(width)
		}
		is(t, "Put", r.Put(v, nums...), api.OK)
		tells(t, "Put", a, v.At(), strings.Repeat("\xff", r.Size()))
		for i, width := range widths {
			for _, x := range []uint64{0, 1, most(width) - 1, most(width), most(width) / 3} {
				is(t, "Set", r.Set(v, i, x), api.OK)
				nums[i] = x
				told, e := r.All(v)
				one, f := r.Get(v, i)
				if e != api.OK || f != api.OK || one != x || !slices.Equal(told, nums) {
					t.Fatalf("field %d of %d: %x of %x, and %x of %x, errors %d, %d", i, n, one, x, told, nums, e, f)
				}
			}
		}
	}
}

func TestNumbersThatAreTooLong(t *testing.T) {
	a := two(t)
	v := part(t, a, 100, 15)
	r := record(t, 1, 2, 4, 8)
	for i, width := range []int{1, 2, 4} {
		for _, x := range []uint64{most(width) + 1, most(width+1) + 1, 1 << 63, math.MaxUint64} {
			is(t, "Set", r.Set(v, i, x), api.ErrLong)
			is(t, "Set without a view", r.Set(view.View{}, i, x), api.ErrLong)
			nums := []uint64{1, 2, 3, 4}
			nums[i] = x
			is(t, "Put", r.Put(v, nums...), api.ErrLong)
			is(t, "Put without a view", r.Put(view.View{}, nums...), api.ErrLong)
		}
	}
	is(t, "Set to 65536", record(t, 1, 2, 8).Set(v, 1, 65536), api.ErrLong)
	tells(t, "refused", a, 0, "")
	is(t, "Set of eight bytes", r.Set(v, 3, math.MaxUint64), api.OK)
}

func TestFieldsThatAreNone(t *testing.T) {
	a := two(t)
	v := part(t, a, 100, 300)
	for _, n := range []int{1, 3, 32} {
		r := record(t, widest(n)...)
		for _, i := range append(far, n, n+1, 33) {
			for _, w := range []view.View{v, {}} {
				x, e := r.Get(w, i)
				is(t, "Get", e, api.ErrArg)
				is(t, "Set", r.Set(w, i, math.MaxUint64), api.ErrArg)
				is(t, "Set", r.Set(w, i, 0), api.ErrArg)
				if x != 0 {
					t.Errorf("Get(%d): %d beside an error", i, x)
				}
			}
		}
		for _, many := range []int{0, n - 1, n + 1, 100} {
			for _, x := range []uint64{0, math.MaxUint64} {
				if many != n {
					is(t, "Put", r.Put(v, slices.Repeat([]uint64{x}, many)...), api.ErrArg)
					is(t, "Put without a view", r.Put(view.View{}, slices.Repeat([]uint64{x}, many)...), api.ErrArg)
				}
			}
		}
	}
	tells(t, "refused", a, 0, "")
}

func TestViewWithoutRoomForARecord(t *testing.T) {
	a := two(t)
	r := record(t, 1, 2, 8)
	for size := range 14 {
		v := part(t, a, 100, size)
		for i, end := range []int{1, 3, 11} {
			wanted := api.ErrRange
			if end <= size {
				wanted = api.OK
			}
			x, e := r.Get(v, i)
			is(t, "Get", e, wanted)
			if e != api.OK && x != 0 {
				t.Errorf("Get(%d) of %d bytes: %d", i, size, x)
			}
			if wanted != api.OK {
				is(t, "Set", r.Set(v, i, 1), api.ErrRange)
			}
		}
		nums, e := r.All(v)
		if size < 11 && (e != api.ErrRange || len(nums) != 0) || size >= 11 && (e != api.OK || len(nums) != 3) {
			t.Errorf("All of %d bytes: %x, error %d", size, nums, e)
		}
		if size < 11 {
			is(t, "Put", r.Put(v, 1, 2, 3), api.ErrRange)
		}
	}
	tells(t, "refused", a, 0, "")
}

func TestRecordOfWhichAPartIsGone(t *testing.T) {
	a := two(t)
	r := record(t, 2, 2, 4)
	v := part(t, a, 4092, 8)
	is(t, "Decommit", a.Decommit(1, 1), api.OK)
	x, e := r.Get(v, 1)
	if x != 0x2e2e || e != api.OK {
		t.Errorf("Get of a field that is there: %x, error %d", x, e)
	}
	_, e = r.Get(v, 2)
	is(t, "Get", e, api.ErrRange)
	is(t, "Set", r.Set(v, 2, 0), api.ErrRange)
	nums, e := r.All(v)
	is(t, "All", e, api.ErrRange)
	is(t, "Put", r.Put(v, 0, 0, 0), api.ErrRange)
	if s, _ := a.Bytes(0, 4096); len(nums) != 0 || s != strings.Repeat(".", 4096) {
		t.Errorf("beside the error: %x, or something is stored", nums)
	}
	is(t, "Set of a field that is there", r.Set(v, 1, 0), api.OK)
}

func TestZeroViewHasNoRecord(t *testing.T) {
	r := record(t, 1, 2)
	x, e := r.Get(view.View{}, 1)
	is(t, "Get", e, api.ErrNil)
	is(t, "Set", r.Set(view.View{}, 0, 255), api.ErrNil)
	nums, e := r.All(view.View{})
	is(t, "All", e, api.ErrNil)
	is(t, "Put", r.Put(view.View{}, 1, 2), api.ErrNil)
	if x != 0 || len(nums) != 0 {
		t.Errorf("beside the error: %d, %x", x, nums)
	}
}

func TestZeroRecord(t *testing.T) {
	a := two(t)
	v := part(t, a, 100, 20)
	var r Record
	if r.Len() != 0 || r.Size() != 0 {
		t.Errorf("%d fields, %d bytes", r.Len(), r.Size())
	}
	for _, i := range append(far, 0, 1, 31, 32) {
		x, e := r.Get(v, i)
		if r.At(i) != 0 || x != 0 || e != api.ErrArg {
			t.Errorf("field %d: at %d, %d, error %d", i, r.At(i), x, e)
		}
		is(t, "Set", r.Set(v, i, 0), api.ErrArg)
	}
	if nums, e := r.All(v); e != api.OK || len(nums) != 0 {
		t.Errorf("All: %x, error %d", nums, e)
	}
	is(t, "Put", r.Put(v), api.OK)
	is(t, "Put", r.Put(v, 0), api.ErrArg)
	_, e := r.All(view.View{})
	is(t, "All without a view", e, api.ErrNil)
	is(t, "Put without a view", r.Put(view.View{}), api.ErrNil)
	tells(t, "the zero record", a, 0, "")
}

func TestPutLeavesItsNumbers(t *testing.T) {
	v := part(t, two(t), 100, 20)
	r := record(t, 8, 8)
	nums := []uint64{1, 2, 3}
	is(t, "Put", r.Put(v, nums[:2]...), api.OK)
	if !slices.Equal(nums, []uint64{1, 2, 3}) {
		t.Errorf("the numbers are %d", nums)
	}
	clear(nums)
	one, _ := r.All(v)
	clear(one)
	if other, _ := r.All(v); !slices.Equal(other, []uint64{1, 2}) {
		t.Errorf("All behind a change of another answer: %d", other)
	}
}

// texts: some of many lengths, of any bytes.
func texts() []string {
	all := make([]byte, 256)
	for i := range all {
		all[i] = byte(i)
	}
	return []string{"", "a", "\x00", "ab", "\xff\xfe\x00", "millpond", "\u00e4\u00f6", string(all[:127]), string(all[:128]), string(all[1:255]), string(all[:255]), string(all[1:])}
}

func TestTexts(t *testing.T) {
	for _, s := range texts() {
		for _, most := range []int{len(s), len(s) + 1, 100, 254, 255} {
			for _, at := range []int{0, 1, 44} {
				if most < len(s) || most > 255 {
					continue
				}
				a := two(t)
				v := part(t, a, 3900, 300)
				is(t, "PutText", PutText(v, at, most, s), api.OK)
				if told, e := Text(v, at, most); e != api.OK || told != s {
					t.Fatalf("%q at %d, of at most %d: %q, error %d", s, at, most, told, e)
				}
				told, _ := a.Bytes(3900+at, 1+len(s))
				if told != string([]byte{byte(len(s))})+s {
					t.Fatalf("%q is laid as %q", s, told)
				}
				ahead, _ := a.Bytes(0, 3900+at)
				behind, _ := a.Bytes(3900+at+most+1, 2*api.Page-3900-at-most-1)
				if strings.Trim(ahead+behind, ".") != "" {
					t.Fatalf("%q at %d, of at most %d, is laid beyond its place", s, at, most)
				}
			}
		}
	}
}

func TestTextOverAnother(t *testing.T) {
	v := part(t, two(t), 100, 20)
	for _, s := range []string{"longer", "short", "", "a", "longest"} {
		is(t, "PutText", PutText(v, 3, 10, s), api.OK)
		if told, e := Text(v, 3, 10); e != api.OK || told != s {
			t.Errorf("%q is told as %q, error %d", s, told, e)
		}
	}
	is(t, "Fill behind", v.Fill(3+1+len("longest"), 3, 0xff), api.OK)
	if told, e := Text(v, 3, 10); e != api.OK || told != "longest" {
		t.Errorf("with other bytes behind it: %q, error %d", told, e)
	}
}

func TestTextsOfAMostThatMayNotBe(t *testing.T) {
	a := two(t)
	v := part(t, a, 100, 1000)
	for _, most := range append(far, 256, 257, 511) {
		for _, w := range []view.View{v, {}} {
			for _, at := range []int{0, -1, math.MaxInt} {
				s, e := Text(w, at, most)
				is(t, "Text", e, api.ErrArg)
				is(t, "PutText", PutText(w, at, most, ""), api.ErrArg)
				is(t, "PutText", PutText(w, at, most, strings.Repeat("a", 600)), api.ErrArg)
				if s != "" {
					t.Errorf("beside the error: %q", s)
				}
			}
		}
	}
	tells(t, "refused", a, 0, "")
}

func TestTextsThatAreTooLong(t *testing.T) {
	a := two(t)
	v := part(t, a, 100, 1000)
	for _, most := range []int{0, 1, 7, 254, 255} {
		for _, more := range []int{1, 2, 256, 1000} {
			s := strings.Repeat("a", most+more)
			is(t, "PutText", PutText(v, 0, most, s), api.ErrLong)
			is(t, "PutText nowhere", PutText(v, -1, most, s), api.ErrLong)
			is(t, "PutText without a view", PutText(view.View{}, 0, most, s), api.ErrLong)
		}
	}
	tells(t, "refused", a, 0, "")
}

func TestTextsWithoutRoom(t *testing.T) {
	a := two(t)
	v := part(t, a, 100, 20)
	is(t, "Fill", v.Fill(0, 20, 0), api.OK)
	for _, most := range []int{0, 1, 10, 19, 20, 255} {
		for at := -2; at <= 22; at++ {
			wanted := api.ErrRange
			if at >= 0 && at+most+1 <= 20 {
				wanted = api.OK
			}
			s, e := Text(v, at, most)
			is(t, "Text", e, wanted)
			is(t, "PutText", PutText(v, at, most, ""), wanted)
			if s != "" {
				t.Errorf("Text(%d, %d): %q", at, most, s)
			}
		}
		for _, at := range far {
			_, e := Text(v, at, most)
			is(t, "Text from afar", e, api.ErrRange)
			is(t, "PutText from afar", PutText(v, at, most, ""), api.ErrRange)
		}
	}
	// Even one whose bytes would all have room, where its place hasn't.
	is(t, "PutText", PutText(v, 10, 10, "ab"), api.ErrRange)
	tells(t, "refused", a, 100, strings.Repeat("\x00", 20))
}

func TestTextsOfWhichAPartIsGone(t *testing.T) {
	a := two(t)
	v := part(t, a, 4090, 20)
	is(t, "PutText", PutText(v, 0, 10, "abc"), api.OK)
	is(t, "PutText", PutText(v, 5, 10, "a"), api.OK)
	is(t, "PutText", PutText(v, 0, 5, "abc"), api.OK)
	before, _ := a.Bytes(0, 4096)
	is(t, "Decommit", a.Decommit(1, 1), api.OK)
	for _, at := range []int{0, 5, 6} {
		s, e := Text(v, at, 10)
		is(t, "Text", e, api.ErrRange)
		is(t, "PutText", PutText(v, at, 10, "x"), api.ErrRange)
		if s != "" {
			t.Errorf("beside the error: %q", s)
		}
	}
	if after, _ := a.Bytes(0, 4096); after != before {
		t.Error("what was refused has stored something")
	}
	if s, e := Text(v, 0, 5); e != api.OK || s != "abc" {
		t.Errorf("a text that is there: %q, error %d", s, e)
	}
}

func TestTextOfALengthThatMayNotBe(t *testing.T) {
	v := part(t, two(t), 100, 300)
	for n := range 256 {
		is(t, "Store", v.Store(7, 1, uint64(n)), api.OK)
		for _, most := range []int{0, 1, 100, 254, 255} {
			s, e := Text(v, 7, most)
			if n <= most && (e != api.OK || s != strings.Repeat(".", n)) || n > most && (e != api.ErrForm || s != "") {
				t.Errorf("of the length %d, at most %d: %q, error %d", n, most, s, e)
			}
		}
	}
	is(t, "Store", v.Store(298, 1, 255), api.OK)
	_, e := Text(v, 298, 2)
	is(t, "Text without room, of a wrong length", e, api.ErrRange)
}

func TestZeroViewHasNoTexts(t *testing.T) {
	for _, at := range append(far, 0, 1) {
		s, e := Text(view.View{}, at, 0)
		if s != "" || e != api.ErrNil {
			t.Errorf("Text(%d): %q, error %d", at, s, e)
		}
		is(t, "PutText", PutText(view.View{}, at, 0, ""), api.ErrNil)
		is(t, "PutText", PutText(view.View{}, at, 255, "a"), api.ErrNil)
	}
}

func TestRecordsAndTextsAreInTheArena(t *testing.T) {
	a := two(t)
	r := record(t, 1, 8)
	v := part(t, a, 4092, 30)
	is(t, "Put", r.Put(v, 7, 1<<40), api.OK)
	is(t, "PutText", PutText(v, 9, 20, "millpond"), api.OK)
	twin := part(t, a.Clone(), 4092, 30)
	is(t, "Fill", v.Fill(0, 30, 0), api.OK)
	nums, e := r.All(twin)
	s, f := Text(twin, 9, 20)
	if e != api.OK || f != api.OK || !slices.Equal(nums, []uint64{7, 1 << 40}) || s != "millpond" {
		t.Errorf("of a clone: %x, %q, errors %d, %d", nums, s, e, f)
	}
}
