package schema_test

import (
	"fmt"
	"math"
	"strings"
	"testing"

	"joinlearn/api"
	"joinlearn/schema"
)

// values are, for each kind, texts that are values of it. What one list has and another one does not is no value of the other kind.
func values() map[int][]string {
	integers := []string{"0", "1", "-1", "7", "10", "-42", "999999999", "1000000000", "-999999999", "-1000000000"}
	return map[int][]string{
		api.KindKey:      append([]string{""}, integers...),
		api.KindNumber:   append([]string{"", "1/2", "-1/2", "7/12", "-7/12", "1/3", "22/7", "5/11", "999999999/2", "-999999997/12", "1000000000/3", "-1000000000/11"}, integers...),
		api.KindCategory: {"", "a", "z", "red", "a-1", "x0", "abcdefghijkl"},
	}
}

func TestValue(t *testing.T) {
	all := map[string]bool{}
	for _, l := range values() {
		for _, v := range l {
			all[v] = true
		}
	}
	for kind, l := range values() {
		for v := range all {
			want := false
			for _, other := range l {
				want = want || v == other
			}
			same(t, fmt.Sprintf("Value of the kind %d, %q", kind, v), schema.Value(api.Attribute{Name: "a", Kind: kind}, v), want)
		}
	}
}

// TestNoValue goes through texts that are values of no kind.
func TestNoValue(t *testing.T) {
	for _, v := range []string{
		" ", "-", "+1", "00", "01", "-0", "-01", "1 ", " 1", "1.0", "1e3", "1_0", "0x1", "１", "1,", "1000000001", "-1000000001", "9999999999", strings.Repeat("9", api.MaxDigits), strings.Repeat("1", api.MaxDigits+1), "4611686018427387904", "9223372036854775808", "18446744073709551617",
		"7/13", "1/13", "-1/13", "1/24", "1/100", "1000000001/2", "-1000000001/2", "1/1000000000000000000000", "1000000000000000000000/7", "2/4", "1/1", "0/2", "1/0", "1/-2", "1/", "/2", "/", "1//2", "1/2/3", "-/2", "01/2", "1/02", "6/12", "14/24", "1 /2",
		"Red", "red!", "0a", "-a", "a b", "abcdefghijklm", "ä", "\x00", "\xff", strings.Repeat("a", 1<<16),
	} {
		for kind := range 5 {
			same(t, fmt.Sprintf("Value of the kind %d, %q", kind, v), schema.Value(api.Attribute{Name: "a", Kind: kind}, v), false)
		}
	}
}

// TestOtherKinds goes through kinds that do not exist: nothing is a value of them, not even the empty text.
func TestOtherKinds(t *testing.T) {
	for _, kind := range []int{0, 4, 5, -1, -2, math.MaxInt, math.MinInt} {
		for _, l := range values() {
			for _, v := range l {
				same(t, fmt.Sprintf("Value of the kind %d, %q", kind, v), schema.Value(api.Attribute{Name: "a", Kind: kind}, v), false)
			}
		}
	}
}

// TestNameOfAttribute checks that only the kind of an attribute matters.
func TestNameOfAttribute(t *testing.T) {
	for _, name := range []string{"", "?", "price"} {
		same(t, "value of "+name, schema.Value(api.Attribute{Name: name, Kind: api.KindNumber}, "1/2"), true)
		same(t, "no value of "+name, schema.Value(api.Attribute{Name: name, Kind: api.KindNumber}, "price"), false)
	}
}

// TestDenominators goes through all short denominators.
func TestDenominators(t *testing.T) {
	for den := 2; den <= 3*api.MaxDenominator; den++ {
		v := fmt.Sprintf("%d/%d", den+1, den)
		same(t, "value "+v, schema.Value(api.Attribute{Kind: api.KindNumber}, v), den <= api.MaxDenominator)
	}
}
