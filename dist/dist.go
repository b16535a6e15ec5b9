// Package dist is layer 1: distances that stop at their end. See shared/doc/01-dist.md.
package dist

import (
	"strconv"

	"ringroad/api"
)

const (
	farText  = "far"
	noneText = "none"
)

// Norm: what a number counts as.
func Norm(a int) int { return min(max(a, 0), api.None) }

// Add: the sum of distances.
func Add(l ...int) int {
	return fold(l, 0, func(sum, a int) int {
		a = Norm(a)
		if !Told(sum) || !Told(a) {
			// None stands above Far, and Far above all that is told: the greater one is what the sum comes to.
			return max(sum, a)
		}
		// Two told distances may add up to more than an int holds: the room that is left is asked for, not the sum.
		if a > api.Most-sum {
			return api.Far
		}
		return sum + a
	})
}

// Min: the least of distances.
func Min(l ...int) int {
	return fold(l, api.None, func(least, a int) int {
		return min(least, Norm(a))
	})
}

// Less: is one less than another one?
func Less(a, b int) bool { return Norm(a) < Norm(b) }

// Told: is it told?
func Told(a int) bool { return Norm(a) <= api.Most }

// Weight: may it be a weight?
func Weight(a int) bool { return a >= 1 && a <= api.Most }

// Text: a distance as a text.
func Text(a int) string {
	switch a = Norm(a); a {
	case api.Far:
		return farText
	case api.None:
		return noneText
	}
	return strconv.Itoa(a)
}

// Parse: the distance of a text.
func Parse(s string) (int, bool) {
	switch s {
	case farText:
		return api.Far, true
	case noneText:
		return api.None, true
	}
	a, err := strconv.Atoi(s)
	// Atoi takes signs, noughts ahead and numbers that aren't told, too; none of these is a text that Text gives.
	if err != nil || Text(a) != s {
		return 0, false
	}
	return a, true
}

// fold goes through a list from its first element on, and does with what has come out so far, and the element, what it is handed.
func fold[E, R any](l []E, start R, with func(R, E) R) R {
	out := start
	for _, e := range l {
		out = with(out, e)
	}
	return out
}
