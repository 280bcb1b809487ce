package ring_test

import (
	"slices"

	"bspregion/api"
	"bspregion/point"
	"bspregion/rational"
)

// words calls test with all lists of n of these spots.
func words(letters spots, n int, test func(l spots)) {
	l := make(spots, n)
	var fill func(i int)
	fill = func(i int) {
		if i == n {
			test(slices.Clone(l))
			return
		}
		for _, p := range letters {
			l[i] = p
			fill(i + 1)
		}
	}
	fill(0)
}

// grid are the spots of a square with this number of spots on each side.
func grid(side int64) spots {
	var list spots
	for x := range side {
		for y := range side {
			list = append(list, spot{x, y})
		}
	}
	return list
}

// few calls test with the valid rings of three and four vertices on a small grid, and with those of five that begin at a corner, at a side or in the middle of it.
func few(test func(l spots)) {
	valid := func(l spots) {
		if l.valid() {
			test(l)
		}
	}
	words(grid(3), 3, valid)
	words(grid(3), 4, valid)
	words(grid(3), 4, func(l spots) {
		for _, first := range (spots{{0, 0}, {0, 1}, {1, 1}}) {
			valid(slices.Concat(spots{first}, l))
		}
	})
}

// dice yields numbers without an order, the same ones in each run.
type dice uint64

// roll is the next number, at least 0 and less than n.
func (d *dice) roll(n int) int {
	*d = *d*6364136223846793005 + 1442695040888963407
	return int(uint64(*d) >> 33 % uint64(n))
}

// spot is a spot of the grid with this side.
func (d *dice) spot(side int) spot {
	return spot{int64(d.roll(side)), int64(d.roll(side))}
}

// grow returns a simple ring with up to n vertices on a grid. Many of them lie on a line with others, and many edges are vertical.
func (d *dice) grow(n, side int) spots {
	l := spots{{0, 0}, {int64(side), 1}, {1, int64(side)}}
	for range 3 * n {
		m := slices.Insert(slices.Clone(l), d.roll(len(l)), d.spot(side))
		if len(m) <= n && m.valid() && m.simple() {
			l = m
		}
	}
	if d.roll(2) == 0 {
		slices.Reverse(l)
	}
	return l.rotated(d.roll(len(l)))
}

// many calls test with rings of up to 24 vertices: simple ones, the same ones after a vertex has been moved, and others.
func many(test func(l spots)) {
	var d dice
	for range 2500 {
		l := d.grow(4+d.roll(21), 4+d.roll(5))
		test(l)
		m := slices.Clone(l)
		m[d.roll(len(m))] = d.spot(8)
		if m.valid() {
			test(m)
		}
		var free spots
		for range 5 + d.roll(5) {
			free = append(free, d.spot(9))
		}
		if free.valid() {
			test(free)
		}
	}
}

// mapping is the map (x, y) -> (a x + b y + c, e y + f) with numbers of many digits, where a and e are positive: it does not change orientations.
type mapping struct {
	a, b, c, e, f string
}

// mappings are maps that enlarge, reduce and lean rings.
func mappings() []mapping {
	return []mapping{
		{far, "0", "-1/3", far, "1/" + far},
		{"1/" + far, "0", "-" + far, "1/7", far},
		{"1", "-" + far, "5/18446744073709551617", "4294967297/18446744073709551616", "0"},
	}
}

// of is the image of l.
func (m mapping) of(l spots) api.Ring {
	var r api.Ring
	for _, p := range l.ring() {
		x := rational.Add(rational.Mul(number(m.a), p.X), rational.Mul(number(m.b), p.Y))
		r = append(r, api.Point{X: rational.Add(x, number(m.c)), Y: rational.Add(rational.Mul(number(m.e), p.Y), number(m.f))})
	}
	return r
}

// long calls test with some rings and with their images.
func long(test func(l spots, r api.Ring, m mapping)) {
	count := 0
	many(func(l spots) {
		if count++; count%25 == 0 {
			for _, m := range mappings() {
				test(l, m.of(l), m)
			}
		}
	})
}

// comb is a simple ring with n vertices, counterclockwise, where n is even. It has long teeth above each other, with the roots at the even numbers, and a straight edge to the left of all roots.
func comb(n int) spots {
	var l spots
	for i := range int64(n/2 - 2) {
		l = append(l, spot{3 * i, 4 * i}, spot{3*i + 100000, 4*i + 2})
	}
	return append(l, spot{1000000, 1000000}, spot{-1, 1000000}, spot{-1, -1}, spot{0, -1})
}

// polygon is a convex polygon with n vertices, counterclockwise, where n is even.
func polygon(n int) spots {
	var steps spots
	for size := int64(1); len(steps) < n/2; size++ {
		steps = slices.DeleteFunc(grid(size+1), func(p spot) bool { return p[1] == 0 || gcd(p[0], p[1]) != 1 })
	}
	slices.SortFunc(steps, func(p, q spot) int { return -orient(spot{}, p, q) })
	l := spots{{0, 0}}
	for i := range n - 1 {
		step := steps[i%(n/2)]
		if i < n/2 {
			l = append(l, l[i].plus(step))
		} else {
			l = append(l, l[i].minus(step))
		}
	}
	return l
}

// gcd is the greatest common divisor of two natural numbers.
func gcd(a, b int64) int64 {
	for b != 0 {
		a, b = b, a%b
	}
	return a
}

// star is a ring that turns left at each vertex and goes round several times.
func star() spots {
	return spots{{0, 10}, {-6, -8}, {10, 3}, {-10, 3}, {6, -8}}
}

// twice is the ring l, traversed twice.
func twice(l spots) spots {
	return slices.Concat(l, l)
}

// raw is num / den, as it is written.
func raw(num int32, den ...uint32) api.Rat {
	if num < 0 {
		return api.Rat{Num: api.Int{Neg: true, Abs: api.Nat{-uint32(num)}}, Den: den}
	}
	return api.Rat{Num: api.Int{Abs: api.Nat{uint32(num)}}, Den: den}
}

// odd are numbers that are not in normal form, each for another reason.
func odd() []api.Rat {
	return []api.Rat{
		{}, raw(1), raw(1, 0), raw(2, 4), raw(-3, 3), raw(0, 1), raw(5, 1, 0),
		{Num: api.Int{Neg: true}, Den: api.Nat{1}}, {Den: api.Nat{2}}, {Num: api.Int{Abs: api.Nat{7, 0}}, Den: api.Nat{1}},
	}
}

// bad is a ring that is not valid, and the error of Check for it.
type bad struct {
	r    api.Ring
	kind error
}

// badRings are rings that are not valid. In many of them several errors apply.
func badRings() []bad {
	list := []bad{{nil, api.ErrRing}, {api.Ring{}, api.ErrRing}}
	for _, l := range []spots{
		{{0, 0}}, {{0, 0}, {0, 0}}, {{0, 0}, {1, 0}}, {{0, 0}, {0, 0}, {0, 0}}, {{0, 0}, {1, 0}, {0, 0}, {1, 0}}, {{0, 0}, {1, 0}, {0, 0}, {1, 0}, {1, 0}},
		{{0, 0}, {0, 0}, {1, 0}, {0, 1}}, {{0, 0}, {1, 0}, {1, 0}, {0, 1}}, {{0, 0}, {1, 0}, {0, 1}, {0, 1}}, {{0, 0}, {1, 0}, {0, 1}, {0, 0}},
	} {
		list = append(list, bad{l.ring(), api.ErrRing})
	}
	for _, a := range odd() {
		for i := range 3 {
			r, s := spots{{0, 0}, {1, 0}, {0, 1}}.ring(), spots{{0, 0}, {0, 0}, {0, 0}, {1, 0}}.ring()
			r[i].X, s[i].Y = a, a
			list = append(list, bad{r, api.ErrInvalid}, bad{s, api.ErrInvalid}, bad{s[i : i+1], api.ErrInvalid})
		}
	}
	size := api.MaxVertices + 1
	tooMany := append(comb(api.MaxVertices), spot{-2, 0}).ring()
	return append(list, bad{tooMany, api.ErrLimit}, bad{make(api.Ring, size), api.ErrLimit}, bad{slices.Repeat(api.Ring{point.FromInts(1, 1)}, 2*size), api.ErrLimit})
}
