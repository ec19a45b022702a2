package glyph_test

import (
	"math"
	"testing"

	"earshot/api"
	"earshot/glyph"
)

// classRow is a row of the chapter's table; the first one that has a rune tells its class.
type classRow struct {
	first, last rune
	class       int
}

func classRows() []classRow {
	return []classRow{
		{9, 9, api.ClassBlank}, {13, 13, api.ClassBlank}, {32, 32, api.ClassBlank},
		{10, 10, api.ClassEnd},
		{'0', '9', api.ClassDigit},
		{'A', 'Z', api.ClassLetter}, {'a', 'z', api.ClassLetter},
		{0xD7, 0xD7, api.ClassOther}, {0xF7, 0xF7, api.ClassOther},
		{0x300, 0x36F, api.ClassOther}, {0x1680, 0x1680, api.ClassOther},
		{0xC0, 0x1FFF, api.ClassLetter},
		{0x3041, 0xD7A3, api.ClassLetter},
		{0x1F300, 0x1FAFF, api.ClassLetter},
		{33, 126, api.ClassMark},
		{math.MinInt32, math.MaxInt32, api.ClassOther},
	}
}

func classByRows(rows []classRow, r rune) int {
	for _, row := range rows {
		if row.first <= r && r <= row.last {
			return row.class
		}
	}
	return 0
}

func TestP104Class(t *testing.T) {
	rows := classRows()
	for r := rune(-300); r <= 0x110100; r++ {
		if got, want := glyph.Class(r), classByRows(rows, r); got != want {
			t.Fatalf("Class(%#x): %d, not %d", r, got, want)
		}
	}
	for _, r := range []rune{math.MinInt32, math.MinInt32 + 'a', math.MaxInt32, 1<<30 + 'a'} {
		if got := glyph.Class(r); got != api.ClassOther {
			t.Errorf("Class(%#x): %d", r, got)
		}
	}
}

func TestP104ClassExamples(t *testing.T) {
	for r, want := range map[rune]int{
		'α':    api.ClassLetter,
		'×':    api.ClassOther,
		'_':    api.ClassMark,
		'🦉':    api.ClassLetter,
		0x200B: api.ClassOther,
		-1:     api.ClassOther,
		'\n':   api.ClassEnd,
		'\r':   api.ClassBlank,
		'7':    api.ClassDigit,
		'漢':    api.ClassLetter,
		0xFFFD: api.ClassOther,
	} {
		if got := glyph.Class(r); got != want {
			t.Errorf("Class(%#x): %d, not %d", r, got, want)
		}
	}
}
