package table

import (
	"testing"

	"breviary/api"
	"breviary/keys"
	"breviary/rows"
)

// checked is a table of a few rows, whose Check is true.
func checked(t *testing.T) *Table {
	t.Helper()
	x, _ := New(9, 2)
	for _, key := range []string{"a", "b", "c", "d", "e"} {
		x.Put(key, api.Row{1, 2, 3, int(key[0])})
	}
	if !x.Check() {
		t.Fatal("Check is false ahead of all")
	}
	return x
}

// entry is the bytes of an entry.
func entry(value int, key string) string {
	s, _ := keys.Put(keys.Entry{Value: value, Key: key})
	return s
}

// P7.2: Check is false, if an index of any column lacks an entry of a row.
func TestCheckTellsEntryLost(t *testing.T) {
	for col := range api.Cols {
		for _, key := range []string{"a", "c", "e"} {
			x := checked(t)
			r, _ := x.Get(key)
			if _, e := x.trees[col].Delete(entry(r[col], key)); e != api.OK {
				t.Fatalf("the index of column %d has no entry of %q: %v", col, key, e)
			}
			if x.Check() {
				t.Errorf("Check is true, though the index of column %d lacks an entry of %q", col, key)
			}
		}
	}
}

// P7.2: Check is false, if an index has an entry of a value that the key's row has not, or of no row's key.
func TestCheckTellsEntryMore(t *testing.T) {
	for col := range api.Cols {
		for _, more := range []string{entry(9, "a"), entry(2, "bb"), entry(-1, "z")} {
			x := checked(t)
			x.trees[col].Put(more, "")
			if x.Check() {
				t.Errorf("Check is true, though the index of column %d has %q too", col, more)
			}
		}
	}
}

// P7.2: Check is false, if an index has another entry in the place of a row's.
func TestCheckTellsEntryOther(t *testing.T) {
	for col := range api.Cols {
		for _, other := range []string{entry(9, "e"), entry(1, "f"), entry(-1, "e")} {
			x := checked(t)
			r, _ := x.Get("e")
			x.trees[col].Delete(entry(r[col], "e"))
			x.trees[col].Put(other, "")
			if x.Check() {
				t.Errorf("Check is true, though the index of column %d has %q in the place of a row's", col, other)
			}
		}
	}
}

// P7.2: Check is false, if a row comes, goes, or turns, and no index with it.
func TestCheckTellsRowTurned(t *testing.T) {
	for col := range api.Cols {
		x := checked(t)
		r, _ := x.Get("b")
		r[col]++
		x.trees[byKey].Put("b", string(rows.Encode(r)))
		if x.Check() {
			t.Errorf("Check is true, though a row has another value in column %d than its index", col)
		}
	}
	x := checked(t)
	x.trees[byKey].Put("f", string(rows.Encode(api.Row{})))
	if x.Check() {
		t.Error("Check is true, though a row has come that no index has")
	}
	x = checked(t)
	x.trees[byKey].Delete("a")
	if x.Check() {
		t.Error("Check is true, though a row is gone that each index has")
	}
}
