// Package size is layer 1: sizes, reckoned without going round.
package size

import "millpond/api"

// Whole: is it an alignment?
func Whole(align int) bool {
	return align >= 1 && align <= api.Page && align&(align-1) == 0
}

// Up: the least multiple of align that isn't less than n.
func Up(n, align int) (int, bool) {
	if !isSize(n) || !Whole(align) {
		return 0, false
	}
	// The greatest size is a multiple of every alignment, so this never leads above it.
	return (n + align - 1) / align * align, true
}

// Pages: the least number of pages that have n bytes.
func Pages(n int) (int, bool) {
	whole, ok := Up(n, api.Page)
	return whole / api.Page, ok
}

// Order: the least order of a run with so many pages.
func Order(pages int) (int, bool) {
	if pages < 1 {
		return 0, false
	}
	for order := range api.MaxOrder + 1 {
		if pages <= 1<<order {
			return order, true
		}
	}
	return 0, false
}

// Span: how many bytes a run of that order has.
func Span(order int) int {
	if order < 0 || order > api.MaxOrder {
		return 0
	}
	return api.Page << order
}

// Sum: all together.
func Sum(parts ...int) (int, bool) {
	total := 0
	for _, part := range parts {
		// Each part is held against what is left, so that total + part can't go round.
		if part < 0 || part > api.Most-total {
			return 0, false
		}
		total += part
	}
	return total, true
}

func isSize(n int) bool {
	return n >= 0 && n <= api.Most
}
