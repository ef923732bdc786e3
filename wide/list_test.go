package wide

import (
	"math/big"
	"slices"
	"strings"
	"testing"

	"joinlearn/api"
)

func TestLists(t *testing.T) {
	texts := []api.Rat{"0", "-1", "2/3", "-7/12", api.Rat(strings.Repeat("9", api.MaxDigits))}
	list := ReadList(texts)
	for i, a := range list {
		want, _ := new(big.Rat).SetString(string(texts[i]))
		checkRat(t, "element", a, want)
	}
	back, e := WriteList(list)
	if !slices.Equal(back, texts) || e != api.OK {
		t.Errorf("list: %v %v", back, e)
	}
	for _, rows := range [][][]api.Rat{nil, {nil, nil}, {texts}, {texts[:2], nil, texts[2:]}} {
		back, e := WriteRows(ReadRows(rows))
		if !slices.EqualFunc(back, rows, slices.Equal[[]api.Rat]) || e != api.OK {
			t.Errorf("rows: %v %v", back, e)
		}
	}
}

func TestListsThatDoNotFit(t *testing.T) {
	long := Whole(Read("1" + strings.Repeat("0", api.MaxDigits)))
	list := []Rat{{}, long, {}}
	if back, e := WriteList(list); back != nil || e != api.ErrLimit {
		t.Errorf("list: %v %v", back, e)
	}
	if back, e := WriteRows([][]Rat{{{}}, list, nil}); back != nil || e != api.ErrLimit {
		t.Errorf("rows: %v %v", back, e)
	}
}

func TestDot(t *testing.T) {
	list := someRats()
	turned := slices.Clone(list)
	slices.Reverse(turned)
	want := new(big.Rat)
	for i := range list {
		checkRat(t, "sum of products", Dot(list[:i], turned[:i]), want)
		want.Add(want, new(big.Rat).Mul(referenceRat(list[i]), referenceRat(turned[i])))
	}
	checkRat(t, "sum of products", Dot(list, turned), want)
}
