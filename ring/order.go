package ring

import (
	"slices"

	"bspregion/api"
	"bspregion/point"
)

// Canon returns the least rotation of r.
func Canon(r api.Ring) (api.Ring, error) {
	if err := Check(r); err != nil {
		return nil, err
	}
	first := leastStart(r)
	return copyOf(slices.Concat(r[first:], r[:first])), nil
}

// leastStart is the number of the vertex with which the least rotation of r begins.
func leastStart(r api.Ring) int {
	n := len(r)
	// The rotations from i and from j agree in the first vertices, as many as same. Of the starts before the greater one of i and j, only the lesser one is left: the rotation from each other one is no less than that from some start that is left.
	i, j, same := 0, 1, 0
	for max(i, j, same) < n {
		switch point.Compare(r[(i+same)%n], r[(j+same)%n]) {
		case 0:
			same++
			continue
		// If the rotation from i is the greater one, that from i + k is greater than that from j + k, up to the different vertices.
		case 1:
			i += same + 1
		case -1:
			j += same + 1
		}
		if i == j {
			j++
		}
		same = 0
	}
	return min(i, j)
}

// Compare orders rings by the first different vertex, where a ring that is the beginning of another one comes first, and returns -1, 0 or 1.
func Compare(r, s api.Ring) (int, error) {
	for _, ring := range []api.Ring{r, s} {
		if err := Check(ring); err != nil {
			return 0, err
		}
	}
	return slices.CompareFunc(r, s, point.Compare), nil
}
