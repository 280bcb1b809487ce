package fragment_test

import (
	"bspregion/api"
	"bspregion/line"
	"bspregion/point"
	"bspregion/rational"
)

const far = "10000000000000000000000000000000000000000"

// lines are valid lines of all directions, and the reverses of some of them.
func lines() []api.Line {
	return []api.Line{
		ln("0", "1", "0"), ln("0", "-1", "0"), ln("1", "0", "0"), ln("-1", "0", "5"), ln("1", "0", "-5"),
		ln("1", "1", "-2"), ln("-1", "-1", "2"), ln("1", "1", "7"), ln("3", "-5", "11"), ln("-6", "10", "-15"),
		ln("18446744073709551617", "-"+far, "7"), ln("-4294967296", "-1", far),
	}
}

// invalidLines are not valid, each for another reason.
func invalidLines() []api.Line {
	return []api.Line{
		{}, ln("0", "0", "1"), ln("2", "0", "4"), ln("-3", "6", "0"),
		{A: api.Int{Abs: api.Nat{1, 0}}, B: integerOf("2"), C: integerOf("3")},
		{A: integerOf("1"), B: api.Int{Neg: true}, C: integerOf("3")},
		{A: integerOf("1"), B: integerOf("2"), C: api.Int{Abs: api.Nat{0}}},
	}
}

// invalidSpans are not valid, each for another reason.
func invalidSpans() []api.Span {
	return []api.Span{
		{}, segment("1", "1"), segment("2", "1"), {Lo: raw(2, 4), Hi: number("7")}, {Lo: number("-7"), Hi: raw(4, 1, 0)},
		{Lo: number("1"), Hi: number("2"), NoLo: true}, {Lo: number("1"), Hi: number("2"), NoHi: true}, {Lo: number("0"), NoLo: true, NoHi: true},
		{Hi: number("0"), NoLo: true, NoHi: true}, {NoLo: true}, {NoHi: true}, {Lo: raw(7, 0), NoHi: true}, {Hi: raw(2, 2), NoLo: true},
	}
}

// invalidFragments are not valid as their line or their span is not.
func invalidFragments() []api.Fragment {
	list := []api.Fragment{{}}
	for _, l := range invalidLines() {
		list = append(list, api.Fragment{Line: l, Span: segment("0", "1")}, api.Fragment{Line: l, Span: whole()})
	}
	for _, s := range invalidSpans() {
		list = append(list, api.Fragment{Line: ln("1", "1", "-2"), Span: s})
	}
	return list
}

// grid are the ends of the spans of the tests, ascending.
func grid() []api.Rat {
	return []api.Rat{number("-18446744073709551617/4294967296"), number("-7/3"), number("0"), number("1/" + far), number(far)}
}

const (
	gridSize = 5
	gaps     = gridSize + 1 // between the numbers of the grid, below and above them
)

// stretch are the gaps of the grid from first to last.
type stretch struct {
	first, last int
}

// stretches are all stretches.
func stretches() []stretch {
	var list []stretch
	for first := range gaps {
		for last := first; last < gaps; last++ {
			list = append(list, stretch{first, last})
		}
	}
	return list
}

// empty reports whether r has no gaps.
func (r stretch) empty() bool {
	return r.first > r.last
}

// both are the gaps that r and q have in common.
func (r stretch) both(q stretch) stretch {
	return stretch{max(r.first, q.first), min(r.last, q.last)}
}

// mirrored are the gaps of r, counted from the other side.
func (r stretch) mirrored() stretch {
	return stretch{gridSize - r.last, gridSize - r.first}
}

// holds reports whether the number i of the grid belongs to r, ends included.
func (r stretch) holds(i int) bool {
	return r.first <= i+1 && i <= r.last
}

// on is the fragment of l with the gaps of r in this grid.
func (r stretch) on(l api.Line, grid []api.Rat) api.Fragment {
	f := api.Fragment{Line: l, Span: whole()}
	if r.first > 0 {
		f.Span.Lo, f.Span.NoLo = grid[r.first-1], false
	}
	if r.last < gridSize {
		f.Span.Hi, f.Span.NoHi = grid[r.last], false
	}
	return f
}

// list has the fragment of r, or nothing if r has no gaps.
func (r stretch) list(l api.Line, grid []api.Rat) []api.Fragment {
	if r.empty() {
		return nil
	}
	return []api.Fragment{r.on(l, grid)}
}

// reversed is l with the other orientation, made without the functions of the program.
func reversed(l api.Line) api.Line {
	for _, a := range []*api.Int{&l.A, &l.B, &l.C} {
		a.Neg = !a.Neg && len(a.Abs) > 0
	}
	return l
}

// mirrorGrid has the negatives of the numbers of the grid, ascending. They are the parameters of the same points on the reverse of a line.
func mirrorGrid() []api.Rat {
	var list []api.Rat
	for i := range gridSize {
		list = append(list, rational.Neg(grid()[gridSize-1-i]))
	}
	return list
}

// shifted are the numbers of the grid, all greater by t.
func shifted(t api.Rat) []api.Rat {
	list := grid()
	for i, n := range list {
		list[i] = rational.Add(n, t)
	}
	return list
}

// probe is a number in the interior of the gap i.
func probe(i int) api.Rat {
	list := grid()
	switch i {
	case 0:
		return rational.Sub(list[0], number("1/7"))
	case gridSize:
		return rational.Add(list[gridSize-1], number("1/7"))
	}
	return rational.Add(list[i-1], rational.Mul(number("1/9"), rational.Sub(list[i], list[i-1])))
}

// beside is p, moved to the left of l or, for a negative number, to the right.
func beside(l api.Line, p api.Point, distance string) api.Point {
	d := line.Direction(l)
	return point.Add(p, point.Scale(number(distance), api.Point{X: rational.Neg(d.Y), Y: d.X}))
}

// crossing is a line through the point p of l, at a right angle to it if lean is 0. It has the points of l with greater parameters than that of p on its left side.
func crossing(l api.Line, p api.Point, lean string) api.Line {
	across := point.Sub(beside(l, p, "2"), p)
	v := point.Add(across, point.Scale(number(lean), line.Direction(l)))
	m, ok := line.Through(point.Add(p, v), point.Sub(p, v))
	if !ok {
		panic(lean)
	}
	return m
}
