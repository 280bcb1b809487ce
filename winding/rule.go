package winding

import "bspregion/api"

// rule is a fill rule.
type rule int

const (
	noRule rule = iota
	evenOdd
	nonZero
)

// ruleOf is the fill rule with this code of package api, or noRule.
func ruleOf(fill int) rule {
	switch fill {
	case api.EvenOdd:
		return evenOdd
	case api.NonZero:
		return nonZero
	}
	return noRule
}

// accepts reports whether the fill rule accepts the winding number n.
func (r rule) accepts(n int) bool {
	switch r {
	case evenOdd:
		return n%2 != 0
	case nonZero:
		return n != 0
	}
	return false
}

// Accepts reports whether the fill rule accepts n. A number that is no fill rule accepts nothing.
func Accepts(fill, n int) bool {
	return ruleOf(fill).accepts(n)
}
