package winding_test

import (
	"math"
	"slices"

	"bspregion/api"
	"bspregion/point"
	"bspregion/rational"
)

// triangle is a valid ring.
func triangle() spots {
	return spots{{0, 0}, {4, 0}, {0, 4}}
}

// square is the square of the chapter.
func square() spots {
	return spots{{0, 0}, {2, 0}, {2, 2}, {0, 2}}
}

// frame are the spots of a square with these least and greatest coordinates.
func frame(least, greatest int64) spots {
	var list spots
	for x := least; x <= greatest; x++ {
		for y := least; y <= greatest; y++ {
			list = append(list, spot{x, y})
		}
	}
	return list
}

// words calls test with all lists of n of these spots.
func words(letters spots, n int, test func(l spots)) {
	if n == 0 {
		test(nil)
		return
	}
	words(letters, n-1, func(l spots) {
		for _, p := range letters {
			test(append(slices.Clone(l), p))
		}
	})
}

// few calls test with the valid rings of three and four vertices on a small grid that begin with their least vertex. Their coordinates are 0, 2 and 4.
func few(test func(s system)) {
	for n := 3; n <= 4; n++ {
		words(frame(0, 2), n, func(l spots) {
			least := !slices.ContainsFunc(l, func(p spot) bool { return slices.Compare(p[:], l[0][:]) < 0 })
			if least && l.valid() {
				test(system{l}.times(2))
			}
		})
	}
}

// dice yields numbers without an order, the same ones in each run.
type dice uint64

// roll is the next number, at least 0 and less than n.
func (d *dice) roll(n int) int {
	*d = *d*6364136223846793005 + 1442695040888963407
	return int(uint64(*d) >> 33 % uint64(n))
}

// ring is a valid ring with three to eight vertices, whose coordinates are at most 4.
func (d *dice) ring() spots {
	for {
		var l spots
		for range 3 + d.roll(6) {
			l = append(l, spot{int64(d.roll(5)), int64(d.roll(5))})
		}
		if l.valid() {
			return l
		}
	}
}

// many calls test with lists of up to five rings. Some rings come twice, and some come back in the other direction, so that their edges vanish. The coordinates are even, from 0 to 8.
func many(test func(s system)) {
	var d dice
	for range 150 {
		var s system
		for range d.roll(4) {
			s = append(s, d.ring())
		}
		test(s.times(2))
		if len(s) == 0 {
			continue
		}
		l := s[d.roll(len(s))]
		test(append(s, l).times(2))
		test(append(s, l.reversed(), d.ring()).times(2))
	}
}

// mapping is the map (x, y) -> (a x + b y + c, d x + e y + f) with numbers of many digits and a positive determinant: it does not change winding numbers.
type mapping struct {
	a, b, c, d, e, f string
}

// mappings are maps that enlarge, reduce, lean and turn rings.
func mappings() []mapping {
	return []mapping{
		{far, "0", "-1/3", "0", far, "1/" + far},
		{"1/" + far, "0", "-" + far, "0", "1/7", far},
		{"1", "-" + far, "5/18446744073709551617", "0", "4294967297/18446744073709551616", "0"},
		{"1/3", "-2", far, "5", "1/" + far, "-1/2"},
	}
}

// of is the image of a point.
func (m mapping) of(p api.Point) api.Point {
	sum := func(a, b, c string) api.Rat {
		linear := rational.Add(rational.Mul(number(a), p.X), rational.Mul(number(b), p.Y))
		return rational.Add(linear, number(c))
	}
	return api.Point{X: sum(m.a, m.b, m.c), Y: sum(m.d, m.e, m.f)}
}

// ofRings are the images of rings.
func (m mapping) ofRings(rings []api.Ring) []api.Ring {
	var list []api.Ring
	for _, r := range rings {
		var image api.Ring
		for _, p := range r {
			image = append(image, m.of(p))
		}
		list = append(list, image)
	}
	return list
}

// long calls test with some lists of rings and with their images.
func long(test func(s system, rings []api.Ring, m mapping)) {
	count := 0
	many(func(s system) {
		if count++; count%20 == 0 {
			for _, m := range mappings() {
				test(s, m.ofRings(s.rings()), m)
			}
		}
	})
}

// spiral goes n times round the spot {0, 0} counterclockwise.
func spiral(n int) spots {
	var l spots
	for i := range int64(n) {
		l = append(l, spot{i + 1, 0}, spot{0, i + 1}, spot{-i - 1, 0}, spot{0, -i - 1})
	}
	return l
}

// raw is num / den, as it is written.
func raw(num int32, den ...uint32) api.Rat {
	if num < 0 {
		return api.Rat{Num: api.Int{Neg: true, Abs: api.Nat{-uint32(num)}}, Den: den}
	}
	return api.Rat{Num: api.Int{Abs: api.Nat{uint32(num)}}, Den: den}
}

// odd are numbers that are not in normal form, each for another reason.
func odd() []api.Rat {
	return []api.Rat{
		{}, raw(1), raw(1, 0), raw(2, 4), raw(-3, 3), raw(0, 1), raw(5, 1, 0),
		{Num: api.Int{Neg: true}, Den: api.Nat{1}}, {Den: api.Nat{2}}, {Num: api.Int{Abs: api.Nat{7, 0}}, Den: api.Nat{1}},
	}
}

// bad is a list of rings that is not valid, and the kind of the error.
type bad struct {
	rings []api.Ring
	kind  error
}

// badLists are lists of rings that are not valid. In many of them several errors apply.
func badLists() []bad {
	good, flat := square().ring(), spots{{0, 0}, {1, 0}, {0, 0}, {1, 0}}.ring()
	wrong := spots{{0, 0}, {0, 0}, {1, 0}}.ring()
	wrong[2].X = raw(2, 2)
	huge := slices.Repeat(api.Ring{{}}, api.MaxVertices+1)
	list := []bad{
		{[]api.Ring{nil}, api.ErrRing}, {[]api.Ring{good, {}}, api.ErrRing}, {[]api.Ring{good, good[:2]}, api.ErrRing}, {[]api.Ring{good, flat, good}, api.ErrRing},
		{[]api.Ring{flat, wrong, huge}, api.ErrRing}, {[]api.Ring{wrong, flat, huge}, api.ErrInvalid}, {[]api.Ring{good, huge, wrong, flat}, api.ErrLimit}, {[]api.Ring{good, wrong, huge, flat}, api.ErrInvalid},
		{slices.Repeat([]api.Ring{good}, api.MaxRings+1), api.ErrLimit}, {slices.Repeat([]api.Ring{flat}, api.MaxRings+1), api.ErrLimit}, {make([]api.Ring, 3*api.MaxRings), api.ErrLimit},
		{append(slices.Repeat([]api.Ring{good}, api.MaxRings-1), flat), api.ErrRing}, {append(slices.Repeat([]api.Ring{good}, api.MaxRings-1), wrong), api.ErrInvalid},
		{append(slices.Repeat([]api.Ring{good}, api.MaxRings), wrong), api.ErrLimit},
	}
	for _, a := range odd() {
		for i := range good {
			r, s := square().ring(), square().ring()
			r[i].X, s[i].Y = a, a
			list = append(list, bad{[]api.Ring{r}, api.ErrInvalid}, bad{[]api.Ring{good, s, flat}, api.ErrInvalid})
		}
	}
	return list
}

// somePoints are points of all kinds: on edges and vertices of samples and elsewhere, in normal form or not.
func somePoints() []api.Point {
	list := []api.Point{{}, at("(1,1)"), at("(2,1)"), at("(-1/2,2)"), at("(" + far + ",1/" + far + ")"), point.FromInts(math.MinInt64, math.MaxInt64)}
	for _, a := range odd() {
		for _, b := range odd() {
			list = append(list, api.Point{X: a, Y: b})
		}
	}
	return list
}
