package line_test

import (
	"math/big"
	"testing"

	"bspregion/api"
	"bspregion/line"
	"bspregion/point"
)

// P5.2: Value and Side
func TestValue(t *testing.T) {
	linePoints(func(l api.Line, p api.Point) {
		want := toForm(l).value(toPair(p))
		checkNumber(t, "Value", line.Value(l, p), want)
		checkSign(t, "Side", line.Side(l, p), want.Sign())
		checkSign(t, "Side of the reverse", line.Side(line.Reverse(l), p), -want.Sign())
	})
}

// P5.2: values and sides by hand, some so near to the line that rounding would hide them
func TestValueExamples(t *testing.T) {
	for _, c := range []struct {
		l    api.Line
		p    api.Point
		want string
	}{
		{ln("0", "1", "0"), at("5", "2"), "2"},
		{ln("0", "1", "0"), at("5", "-2"), "-2"},
		{ln("0", "1", "0"), at("5", "0"), "0"},
		{ln("0", "1", "0"), api.Point{X: rawRat(5, 1), Y: rawRat(7, 0)}, "0"},
		{ln("2", "-3", "1"), at("1/2", "1/3"), "1"},
		{ln("2", "-3", "1"), api.Point{}, "1"},
		{ln("2", "-3", "-1"), api.Point{X: rawRat(2, 4), Y: rawRat(4, 6)}, "-2"},
		{ln("1", "-1", "0"), at("1/"+far, "1/"+farther), "1/" + farther + far[1:]},
		{ln("1", "-1", "0"), at(far, farther), "-1"},
		{ln("1", "-1", "0"), at("1/"+far, "1/"+far), "0"},
	} {
		want := toRat(number(c.want))
		checkNumber(t, "Value at "+point.Format(c.p), line.Value(c.l, c.p), want)
		checkSign(t, "Side of "+point.Format(c.p), line.Side(c.l, c.p), want.Sign())
	}
}

// P5.2: Direction
func TestDirection(t *testing.T) {
	for _, l := range validLines() {
		checkPoint(t, "Direction", line.Direction(l), toForm(l).direction())
	}
	checkPoint(t, "Direction of y = 0", line.Direction(ln("0", "1", "0")), toPair(at("1", "0")))
	checkPoint(t, "Direction of x = 0", line.Direction(ln("1", "0", "0")), toPair(at("0", "-1")))
	checkPoint(t, "Direction of 2 x - 3 y + 1 = 0", line.Direction(ln("2", "-3", "1")), toPair(at("-3", "-2")))
}

// P5.2: Base is the point of the line whose vector from the origin is at a right angle to the direction.
func TestBase(t *testing.T) {
	for _, l := range validLines() {
		f, base := toForm(l), line.Base(l)
		if !point.Normal(base) || f.value(toPair(base)).Sign() != 0 || f.direction().dot(toPair(base)).Sign() != 0 {
			t.Fatal(l, base)
		}
		checkPoint(t, "Base of the reverse", line.Base(line.Reverse(l)), toPair(base))
	}
	checkPoint(t, "Base of x + y = 2", line.Base(ln("1", "1", "-2")), toPair(at("1", "1")))
	checkPoint(t, "Base of x = 5/2", line.Base(ln("2", "0", "-5")), toPair(at("5/2", "0")))
	checkPoint(t, "Base of y = -1/3", line.Base(ln("0", "-3", "-1")), toPair(at("0", "-1/3")))
	checkPoint(t, "Base of 2 x = 3 y", line.Base(ln("2", "-3", "0")), toPair(at("0", "0")))
	checkPoint(t, "Base of 2 x - 3 y + 1 = 0", line.Base(ln("2", "-3", "1")), toPair(at("-2/13", "3/13")))
}

// P5.2: At is base + t * direction.
func TestAt(t *testing.T) {
	for _, l := range validLines() {
		f, base := toForm(l), toPair(line.Base(l))
		for _, s := range coordinates() {
			checkPoint(t, "At", line.At(l, s), base.addScaled(toRat(s), f.direction()))
			checkSign(t, "Side of At", line.Side(l, line.At(l, s)), 0)
			checkNumber(t, "Param of At", line.Param(l, line.At(l, s)), toRat(s))
		}
	}
	checkPoint(t, "At 1 of x + y = 2", line.At(ln("1", "1", "-2"), number("1")), toPair(at("2", "0")))
	checkPoint(t, "At -1/2 of 2 x - 3 y + 1 = 0", line.At(ln("2", "-3", "1"), rawRat(-2, 4)), toPair(at("35/26", "16/13")))
	checkPoint(t, "At 7/0 of x + y = 2", line.At(ln("1", "1", "-2"), rawRat(7, 0)), toPair(at("1", "1")))
}

// P5.2: the vector from the point with the parameter Param to p is at a right angle to the direction.
func TestParam(t *testing.T) {
	linePoints(func(l api.Line, p api.Point) {
		f, base := toForm(l), toPair(line.Base(l))
		got := line.Param(l, p)
		nearest := base.addScaled(toRat(got), f.direction())
		checkNumber(t, "Param", got, toRat(got))
		if toPair(p).sub(nearest).dot(f.direction()).Sign() != 0 {
			t.Fatal(l, p, got)
		}
	})
}

// P5.2: parameters by hand, of points on the line and beside it
func TestParamExamples(t *testing.T) {
	for _, c := range []struct {
		l    api.Line
		p    api.Point
		want *big.Rat
	}{
		{ln("1", "1", "-2"), at("2", "0"), big.NewRat(1, 1)},
		{ln("1", "1", "-2"), at("1", "1"), new(big.Rat)},
		{ln("-1", "-1", "2"), at("2", "0"), big.NewRat(-1, 1)},
		{ln("1", "1", "-2"), at("3", "1"), big.NewRat(1, 1)},
		{ln("1", "1", "-2"), at("5", "5"), new(big.Rat)},
		{ln("1", "1", "-2"), api.Point{}, new(big.Rat)},
		{ln("0", "3", "-1"), at("5", "7"), big.NewRat(5, 3)},
		{ln("3", "0", "-1"), at("5", "7"), big.NewRat(-7, 3)},
		{ln("0", "1", "0"), api.Point{X: rawRat(-6, 4), Y: rawRat(7, 0)}, big.NewRat(-3, 2)},
		{ln("2", "-3", "1"), at("1/2", "1/3"), big.NewRat(-1, 6)},
	} {
		checkNumber(t, "Param of "+point.Format(c.p), line.Param(c.l, c.p), c.want)
	}
}

// Functions that return no bool return the zero value of their type for a line that is not valid.
func TestInvalidLine(t *testing.T) {
	for _, l := range invalidLines() {
		for _, p := range []api.Point{{}, at("1", "2"), at("-7/3", "5")} {
			checkZero(t, "Value", line.Value(l, p))
			checkSign(t, "Side", line.Side(l, p), 0)
			checkZero(t, "Param", line.Param(l, p))
			checkZero(t, "At", line.At(l, p.X))
		}
		checkZero(t, "Reverse", line.Reverse(l))
		checkZero(t, "Direction", line.Direction(l))
		checkZero(t, "Base", line.Base(l))
	}
}
