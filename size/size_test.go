package size

import (
	"math"
	"testing"

	"millpond/api"
)

// wrong: numbers that are no size, no alignment, no order, and no number of pages.
var wrong = []int{-1, -2, -4096, math.MinInt, math.MinInt + 1, math.MaxInt, math.MaxInt - 4095, api.Most + 1, api.Most * 2}

// sizes: about every edge that an alignment has.
func sizes() []int {
	var all []int
	for n := range 2*api.Page + 3 {
		all = append(all, n)
	}
	for bit := 14; bit <= 32; bit++ {
		all = append(all, 1<<bit-4096, 1<<bit-1, 1<<bit)
		if bit < 32 {
			all = append(all, 1<<bit+1, 1<<bit+4095)
		}
	}
	return all
}

func alignments() []int {
	return []int{1, 2, 4, 8, 16, 32, 64, 128, 256, 512, 1024, 2048, 4096}
}

func up(t *testing.T, n, align int) int {
	t.Helper()
	got, ok := Up(n, align)
	if !ok {
		t.Fatalf("Up(%d, %d) is refused", n, align)
	}
	return got
}

func sum(t *testing.T, parts ...int) int {
	t.Helper()
	got, ok := Sum(parts...)
	if !ok {
		t.Fatalf("Sum(%v) is refused", parts)
	}
	return got
}

func TestWholeKnowsAlignments(t *testing.T) {
	is := map[int]bool{}
	for _, align := range alignments() {
		is[align] = true
	}
	for align := -5000; align <= 3*api.Page; align++ {
		if Whole(align) != is[align] {
			t.Errorf("Whole(%d): %v, wanted %v", align, Whole(align), is[align])
		}
	}
	for _, align := range append(wrong, 1<<32, 1<<62) {
		if Whole(align) {
			t.Errorf("Whole(%d): true", align)
		}
	}
}

func TestUpIsLeastMultiple(t *testing.T) {
	for _, align := range alignments() {
		for _, n := range sizes() {
			got := up(t, n, align)
			if got%align != 0 || got < n || got-align >= n {
				t.Fatalf("Up(%d, %d): %d", n, align, got)
			}
		}
	}
}

func TestUpExamples(t *testing.T) {
	for _, c := range [][3]int{
		{17, 16, 32}, {0, 1, 0}, {0, 4096, 0}, {1, 1, 1}, {1, 4096, 4096}, {16, 16, 16},
		{api.Most, 4096, api.Most}, {api.Most - 1, 4096, api.Most}, {api.Most - 4096, 4096, api.Most - 4096},
	} {
		if got := up(t, c[0], c[1]); got != c[2] {
			t.Errorf("Up(%d, %d): %d, wanted %d", c[0], c[1], got, c[2])
		}
	}
}

func TestUpRefuses(t *testing.T) {
	for _, n := range wrong {
		if got, ok := Up(n, 16); ok || got != 0 {
			t.Errorf("Up(%d, 16): %d, %v", n, got, ok)
		}
	}
	for _, align := range append(wrong, 0, 3, 5, 6, 12, 4095, 4097, 8192) {
		if got, ok := Up(32, align); ok || got != 0 {
			t.Errorf("Up(32, %d): %d, %v", align, got, ok)
		}
	}
}

func TestPages(t *testing.T) {
	for _, n := range sizes() {
		got, ok := Pages(n)
		if !ok || got*api.Page < n || (got-1)*api.Page >= n && got > 0 {
			t.Errorf("Pages(%d): %d, %v", n, got, ok)
		}
	}
	for _, c := range [][2]int{{0, 0}, {1, 1}, {4096, 1}, {4097, 2}, {api.Most, api.MaxPages}, {api.Most - 4096, api.MaxPages - 1}} {
		if got, ok := Pages(c[0]); !ok || got != c[1] {
			t.Errorf("Pages(%d): %d, %v, wanted %d", c[0], got, ok, c[1])
		}
	}
	for _, n := range wrong {
		if got, ok := Pages(n); ok || got != 0 {
			t.Errorf("Pages(%d): %d, %v", n, got, ok)
		}
	}
}

func TestSum(t *testing.T) {
	for _, c := range []struct {
		parts []int
		total int
	}{
		{nil, 0}, {[]int{0}, 0}, {[]int{1, 2, 3}, 6}, {[]int{api.Most}, api.Most}, {[]int{0, api.Most, 0}, api.Most},
		{[]int{api.Most - 1, 1}, api.Most}, {[]int{1, api.Most - 1}, api.Most}, {make([]int, 1000), 0},
	} {
		if got := sum(t, c.parts...); got != c.total {
			t.Errorf("Sum(%v): %d, wanted %d", c.parts, got, c.total)
		}
	}
}

func TestSumRefuses(t *testing.T) {
	// Some of these come back to a size, if they go round, or if one part takes from another.
	for _, parts := range [][]int{
		{-1}, {5, -1}, {-1, 5}, {5, -1, 3}, {api.Most + 1}, {api.Most, 1}, {1, api.Most}, {api.Most, 1, -1}, {api.Most + 1, -1},
		{math.MaxInt}, {1, math.MaxInt}, {math.MaxInt, math.MaxInt, 2}, {math.MinInt}, {math.MinInt, math.MinInt}, {api.Most, math.MaxInt, math.MaxInt},
		{api.Most / 2, api.Most / 2, 1},
	} {
		if got, ok := Sum(parts...); ok || got != 0 {
			t.Errorf("Sum(%v): %d, %v", parts, got, ok)
		}
	}
}

func TestSumLeavesItsParts(t *testing.T) {
	parts := []int{1, 2, 3, 4}
	Sum(parts[:3]...)
	for i, part := range parts {
		if part != i+1 {
			t.Errorf("part %d: %d", i, part)
		}
	}
}

func TestOrderIsLeast(t *testing.T) {
	for pages := 1; pages <= 1<<api.MaxOrder; pages++ {
		got, ok := Order(pages)
		if !ok || got < 0 || got > api.MaxOrder || 1<<got < pages || got > 0 && 1<<(got-1) >= pages {
			t.Errorf("Order(%d): %d, %v", pages, got, ok)
		}
	}
	for _, c := range [][2]int{{1, 0}, {2, 1}, {3, 2}, {4, 2}, {5, 3}, {512, 9}, {513, 10}, {1024, 10}} {
		if got, _ := Order(c[0]); got != c[1] {
			t.Errorf("Order(%d): %d, wanted %d", c[0], got, c[1])
		}
	}
	for _, pages := range append(wrong, 0, 1025, 2048, api.MaxPages) {
		if got, ok := Order(pages); ok || got != 0 {
			t.Errorf("Order(%d): %d, %v", pages, got, ok)
		}
	}
}

func TestSpan(t *testing.T) {
	wanted := []int{4096, 8192, 16384, 32768, 65536, 131072, 262144, 524288, 1048576, 2097152, 4194304}
	for order, bytes := range wanted {
		if got := Span(order); got != bytes {
			t.Errorf("Span(%d): %d, wanted %d", order, got, bytes)
		}
	}
	for _, order := range append(wrong, 11, 12, 63, 64) {
		if got := Span(order); got != 0 {
			t.Errorf("Span(%d): %d", order, got)
		}
	}
}

func TestUpAgain(t *testing.T) {
	for _, align := range alignments() {
		for _, n := range sizes() {
			once := up(t, n, align)
			if twice := up(t, once, align); twice != once {
				t.Fatalf("Up(%d, %d): %d", once, align, twice)
			}
		}
	}
}

func TestUpOfSums(t *testing.T) {
	parts := []int{0, 1, 7, 8, 9, 63, 64, 65, 1000, 4095, 4096, 4097, 1 << 31}
	for _, align := range alignments() {
		for _, a := range parts {
			for _, b := range parts[:len(parts)-1] {
				together := up(t, sum(t, a, b), align)
				step := up(t, sum(t, up(t, a, align), b), align)
				each := sum(t, up(t, a, align), up(t, b, align))
				if step < together || each != step {
					t.Fatalf("%d and %d by %d: %d together, %d step by step, %d each", a, b, align, together, step, each)
				}
			}
		}
	}
}
