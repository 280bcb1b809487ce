package point

import (
	"errors"
	"strings"

	"bspregion/api"
	"bspregion/rational"
)

// Signs of the text of a point.
const (
	opening = "("
	comma   = ","
	closing = ")"
)

// Parse reads the form that Format returns, with numbers as rational.Parse reads them.
func Parse(s string) (api.Point, error) {
	xText, yText, ok := coordinates(s)
	x, xErr := rational.Parse(xText)
	y, yErr := rational.Parse(yText)
	switch {
	// A syntax error of the second number goes before any other error of the first one.
	case !ok || errors.Is(yErr, api.ErrSyntax):
		return api.Point{}, api.ErrSyntax
	case xErr != nil:
		return api.Point{}, xErr
	case yErr != nil:
		return api.Point{}, yErr
	}
	return api.Point{X: x, Y: y}, nil
}

// coordinates returns the texts of the coordinates, and whether s has two of them between parentheses.
func coordinates(s string) (string, string, bool) {
	s, opens := strings.CutPrefix(s, opening)
	s, closes := strings.CutSuffix(s, closing)
	x, y, separated := strings.Cut(s, comma)
	return x, y, opens && closes && separated
}

// Format returns an opening parenthesis, the x coordinate, a comma, the y coordinate and a closing parenthesis.
func Format(p api.Point) string {
	return opening + rational.Format(p.X) + comma + rational.Format(p.Y) + closing
}
