package schema

import (
	"joinlearn/api"
	"joinlearn/integer"
	"joinlearn/rational"
)

// Value reports whether v is a value of an attribute of this kind. The empty text is one of each kind that there is: the value is missing.
func Value(a api.Attribute, v string) bool {
	switch a.Kind {
	case api.KindKey:
		return v == "" || within(api.Int(v), api.MaxData)
	case api.KindNumber:
		return v == "" || shortFraction(api.Rat(v))
	case api.KindCategory:
		return v == "" || Word(v)
	}
	return false
}

// within reports whether n is a number from -most to most.
func within(n api.Int, most int) bool {
	small, ok := integer.Small(n)
	return ok && between(small, -most, most)
}

// shortFraction reports whether a is a number that tables can contain.
func shortFraction(a api.Rat) bool {
	num, den, ok := rational.Parts(a)
	return ok && within(num, api.MaxData) && within(den, api.MaxDenominator)
}
