package spread

import (
	"slices"
	"testing"

	"earshot/api"
	"earshot/tagbook"
)

// The calls of the package go through all that there is, so that one may stop on the way is held here.
func TestPassOver(t *testing.T) {
	odd := func(v int) bool { return v%2 != 0 }
	even := passOver(slices.Values([]int{1, 2, 3, 4, 5, 6, 8, 9}), odd)
	for range 2 {
		if got := slices.Collect(even); !slices.Equal(got, []int{2, 4, 6, 8}) {
			t.Errorf("without odd ones: %v", got)
		}
	}
	if got := slices.Collect(passOver(passOver(slices.Values([]int{1, 2, 3, 4}), odd), func(v int) bool { return v == 2 })); !slices.Equal(got, []int{4}) {
		t.Errorf("without odd ones, and without 2: %v", got)
	}
	var got []int
	for v := range even {
		got = append(got, v)
		if v == 4 {
			break
		}
	}
	if !slices.Equal(got, []int{2, 4}) {
		t.Errorf("without odd ones, up to 4: %v", got)
	}
	if got := slices.Collect(passOver(slices.Values([]string{}), func(string) bool { return false })); len(got) != 0 {
		t.Errorf("of nothing: %v", got)
	}
}

func TestGreatest(t *testing.T) {
	longer := func(x, y string) bool { return len(x) > len(y) }
	for _, c := range []struct {
		several []string
		want    string
	}{
		{nil, ""},
		{[]string{"a"}, "a"},
		{[]string{"a", "bcd", "ef"}, "bcd"},
		{[]string{"ab", "cd", "e"}, "ab"},
		{[]string{"", "a", "bc"}, "bc"},
	} {
		if got := greatest(slices.Values(c.several), longer); got != c.want {
			t.Errorf("of %q: %q, not %q", c.several, got, c.want)
		}
	}
	// One that is less than the zero value is found as well.
	if got := greatest(slices.Values([]int{-5, -3, -4}), func(x, y int) bool { return x > y }); got != -3 {
		t.Errorf("of -5, -3, -4: %d", got)
	}
}

func TestSaidOf(t *testing.T) {
	var books []*tagbook.Book
	for tag := range 3 {
		b, e := tagbook.New(2, 1, tag)
		if e != api.OK {
			t.Fatalf("New(2, 1, %d): error %d", tag, e)
		}
		books = append(books, b)
	}
	var tags []int
	for x := range saidOf(1, books) {
		if tags = append(tags, x.Tag); x.Tag == 1 {
			break
		}
	}
	if !slices.Equal(tags, []int{0, 1}) {
		t.Errorf("the tags up to 1: %v", tags)
	}
}
