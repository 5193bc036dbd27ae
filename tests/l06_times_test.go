package tests

import (
	"math"
	"slices"
	"strings"
	"testing"

	"loop.example/g01231/impl"
)

func TestTimeAlong(t *testing.T) {
	minus, inf, nan, high := minusZero(), infinite(), notNumber(), float32(math.MaxFloat32)
	for _, c := range []struct {
		s     impl.Section
		p     impl.Path
		parts int64
		want  string
	}{
		{sectionOf(2, 1, 1, 2), pathOf(0, 0.5, 2, 0.5), 4, "40400000;true;"},
		{sectionOf(2, 1, 1, 2), pathOf(0, 0.5, 2, 0.5), 0, "00000000;false;"},
		{sectionOf(2, 1, 1, 2), pathOf(0, 0.5, 2, 0.5), 1, "40800000;true;"},
		{sectionOf(2, 1, 1, 2), pathOf(0, 0.5, 1001, 0.5), 4, "00000000;false;"},
		{sectionOf(2, 1, 1), pathOf(0, 0.5, 2, 0.5), 4, "00000000;false;"},
		{sectionOf(2, 1, minus, minus), pathOf(0, 0.5, 2, 0.5), 4, "00000000;true;"},
		{sectionOf(2, 1, 0.1, 0.7), pathOf(0.1, 0.5, 1.9, 0.7), 7, "3f4d530b;true;"},
		{sectionOf(2, 2, 0.1, 0.7, -0.3, 0.9), pathOf(0.1, 0.2, 1.9, 1.7), 9, "3f9c9f1c;true;"},
		{sectionOf(2, 2, 1e8, 1, -1e8, 1), pathOf(0.1, 0.2, 0.3, 1.7), 10, "00000000;true;"},
		{sectionOf(2, 2, 1, inf, 2, 3), pathOf(0.5, 0, 0.5, 2), 4, "7fc00000;true;"},
		{sectionOf(2, 2, 1, inf, 2, 3), pathOf(1.5, 0, 1.5, 2), 4, "7f800000;true;"},
		{sectionOf(2, 2, 1, -inf, 2, inf), pathOf(1.5, 0, 1.5, 2), 4, "7fc00000;true;"},
		{sectionOf(2, 2, 1, nan, 2, 3), pathOf(0.5, 0, 0.5, 2), 4, "7fc00000;true;"},
		{sectionOf(2, 2, 1, nan, 2, 3), pathOf(5, 5, 5, 5), 4, "7fc00000;true;"},
		{sectionOf(2, 2, 1, 1, 2, 3), pathOf(5, 5, 5, 5), 4, "00000000;true;"},
		{sectionOf(2, 2, -1, -1, -2, -3), pathOf(5, 5, 9, 5), 4, "00000000;true;"},
		{sectionOf(1, 2, high, high), pathOf(0.5, 0, 0.5, 2), 4, "7f800000;true;"},
		{sectionOf(1, 2, high, -high), pathOf(0.5, 0, 0.5, 2), 4, "00000000;true;"},
		{sectionOf(1, 2, num(1), num(3)), pathOf(0.5, 0, 0.5, 1.5), 3, "00000003;true;"},
		{sectionOf(1, 1, -3), pathOf(0, 0, 1, 1), 1, "c087c3b6;true;"},
		{sectionOf(1, 1, 3), pathOf(0.5, 0.5, 0.5, 0.5), 1, "00000000;true;"},
		{sectionOf(1, 3, 16777216, 1, 1), pathOf(0.5, 0, 0.5, 3), 3, "4b800000;true;"},
		{sectionOf(3, 1, 16777216, 1, 1), pathOf(3, 0.5, 0, 0.5), 3, "4b800000;true;"},
		{sectionOf(1, 1, 1), pathOf(-1000, 0, 1000, 0), 3, "4426aaab;true;"},
	} {
		isShown(t, show(c.s, c.p, c.parts), show(impl.TimeAlong(c.s, c.p, c.parts)), c.want)
	}
	var all strings.Builder
	for k, s := range someSections() {
		for _, p := range append(edgePaths(), pathsBy(5, uint32(k))...) {
			for _, parts := range []int64{1, 5, 64} {
				all.WriteString(show(impl.TimeAlong(s, p, parts)))
			}
		}
	}
	isShown(t, "some", digest(all.String()), "a2979b06")
}

func TestTimesAlong(t *testing.T) {
	for k, s := range someSections() {
		for _, list := range [][]impl.Path{edgePaths()[:32], edgePaths()[15:], pathsBy(1, uint32(k)), pathsBy(2, 7), pathsBy(31, 8), pathsBy(32, uint32(k))} {
			for _, parts := range []int64{1, 7, 256} {
				var want []float32
				for _, p := range list {
					time, ok := impl.TimeAlong(s, p, parts)
					isShown(t, "time", show(ok), "true;")
					want = append(want, time)
				}
				isShown(t, show(s, list, parts), show(impl.TimesAlong(s, list, parts)), show(want, true))
			}
		}
	}
}

func TestTimesOfNothing(t *testing.T) {
	s, p := sectionBy(4, 4, 1), pathOf(0, 0.5, 2, 0.5)
	for _, parts := range noParts() {
		isShown(t, show(parts), show(impl.TimeAlong(s, p, parts)), noNumber)
		isShown(t, show(parts), show(impl.TimesAlong(s, paths(p), parts)), noList)
		isShown(t, show(parts), show(impl.OffTimes(s, paths(p), nums(1), parts)), noNumber)
	}
	for _, bad := range noPathsOfSections() {
		isShown(t, show(bad), show(impl.TimeAlong(s, bad, 4)), noNumber)
	}
	for _, list := range noPathLists() {
		isShown(t, show(list), show(impl.TimesAlong(s, list, 4)), noList)
		isShown(t, show(list), show(impl.OffTimes(s, list, make([]float32, len(list)), 4)), noNumber)
	}
	for _, parts := range []int64{1, 256} {
		_, one := impl.TimeAlong(s, p, parts)
		_, two := impl.TimesAlong(s, pathsBy(32, 1), parts)
		_, three := impl.OffTimes(s, pathsBy(32, 1), wavy(32, 1), parts)
		isShown(t, show(parts), show(one, two, three), "true;true;true;")
	}
}

func TestOffTimes(t *testing.T) {
	minus, inf, nan, high := minusZero(), infinite(), notNumber(), float32(math.MaxFloat32)
	for _, c := range []struct {
		s     impl.Section
		list  []impl.Path
		times []float32
		parts int64
		want  string
	}{
		{sectionOf(2, 1, 1, 2), paths(pathOf(0, 0.5, 2, 0.5)), nums(5), 4, "40000000;true;"},
		{sectionOf(2, 1, 1, 2), paths(pathOf(0, 0.5, 2, 0.5)), nums(1), 4, "40000000;true;"},
		{sectionOf(2, 1, 1, 2), paths(pathOf(0, 0.5, 2, 0.5)), nums(3), 4, "00000000;true;"},
		{sectionOf(2, 1, 1, 2), paths(pathOf(0, 0.5, 2, 0.5), pathOf(1.5, 0, 1.5, 1)), nums(4, 5), 4, "40400000;true;"},
		{sectionOf(2, 1, 1, 2), paths(pathOf(0, 0.5, 2, 0.5), pathOf(1.5, 0, 1.5, 1)), nums(-4, 5), 4, "40e00000;true;"},
		{sectionOf(2, 1, 1, 2), paths(pathOf(0, 0.5, 2, 0.5), pathOf(1.5, 0, 1.5, 1)), nums(5, 0), 4, "40000000;true;"},
		{sectionOf(2, 1, 1, 2), paths(pathOf(0, 0.5, 2, 0.5), pathOf(1.5, 0, 1.5, 1)), nums(nan, 5), 4, "40400000;true;"},
		{sectionOf(2, 1, 1, 2), paths(pathOf(0, 0.5, 2, 0.5), pathOf(1.5, 0, 1.5, 1)), nums(4, nan), 4, "3f800000;true;"},
		{sectionOf(2, 1, 1, 2), paths(pathOf(0, 0.5, 2, 0.5), pathOf(1.5, 0, 1.5, 1)), nums(nan, nan), 4, "00000000;true;"},
		{sectionOf(2, 1, 1, 2), paths(pathOf(0, 0.5, 2, 0.5), pathOf(1.5, 0, 1.5, 1)), nums(inf, 5), 4, "7f800000;true;"},
		{sectionOf(2, 1, 1, 2), paths(pathOf(0, 0.5, 2, 0.5), pathOf(1.5, 0, 1.5, 1)), nums(4, -inf), 4, "7f800000;true;"},
		{sectionOf(2, 1, inf, 2), paths(pathOf(0, 0.5, 2, 0.5), pathOf(1.5, 0, 1.5, 1)), nums(inf, 5), 4, "00000000;true;"},
		{sectionOf(2, 1, inf, 2), paths(pathOf(0, 0.5, 2, 0.5), pathOf(1.5, 0, 1.5, 1)), nums(4, 5), 4, "7f800000;true;"},
		{sectionOf(2, 1, inf, 2), paths(pathOf(0, 0.5, 2, 0.5), pathOf(1.5, 0, 1.5, 1)), nums(-inf, nan), 4, "7f800000;true;"},
		{sectionOf(2, 1, nan, 2), paths(pathOf(0, 0.5, 2, 0.5), pathOf(1.5, 0, 1.5, 1)), nums(4, 5), 4, "00000000;true;"},
		{sectionOf(2, 1, 0, 0), paths(pathOf(0, 0.5, 2, 0.5), pathOf(1.5, 0, 1.5, 1)), nums(minus, minus), 4, "00000000;true;"},
		{sectionOf(2, 1, 0, 0), paths(pathOf(0, 0.5, 2, 0.5), pathOf(1.5, 0, 1.5, 1)), nums(0, -num(1)), 4, "00000001;true;"},
		{sectionOf(1, 1, high), paths(pathOf(0, 0, 0, 1)), nums(-high), 1, "7f800000;true;"},
		{sectionOf(1, 1, 0.1), paths(pathOf(0.1, 0, 0.4, 0.7)), nums(0.3), 5, "3e6536e8;true;"},
		{sectionOf(2, 1, 1, 2), paths(pathOf(0, 0.5, 2, 0.5), pathOf(1.5, 0, 1.5, 1)), nums(1), 4, "00000000;false;"},
		{sectionOf(2, 1, 1, 2), paths(pathOf(0, 0.5, 2, 0.5), pathOf(1.5, 0, 1.5, 1)), nums(1, 2, 3), 4, "00000000;false;"},
		{sectionOf(2, 1, 1, 2), paths(), nums(), 4, "00000000;false;"},
		{sectionOf(2, 1, 1, 2), paths(pathOf(0, 0.5, 2, 0.5), pathOf(1.5, 0, 1.5, 1)), nums(1, 2), 0, "00000000;false;"},
		{sectionOf(2, 1, 1, 2), paths(pathOf(0, 0.5, 2, 0.5), pathOf(1.5, 0, 1.5, 1)), nums(1, 2), 257, "00000000;false;"},
		{sectionOf(2, 1, 1), paths(pathOf(0, 0.5, 2, 0.5), pathOf(1.5, 0, 1.5, 1)), nums(1, 2), 4, "00000000;false;"},
	} {
		isShown(t, show(c.s, c.list, c.times, c.parts), show(impl.OffTimes(c.s, c.list, c.times, c.parts)), c.want)
	}
	var all strings.Builder
	for k, s := range someSections() {
		for _, count := range []int{1, 2, 13, 24} {
			for _, parts := range []int64{1, 9, 100} {
				all.WriteString(show(impl.OffTimes(s, pathsBy(count, uint32(k)), wavy(count, uint32(k)+9), parts)))
				all.WriteString(show(impl.OffTimes(s, pathsBy(count, uint32(k)), someNumbers()[:count], parts)))
			}
		}
	}
	isShown(t, "some", digest(all.String()), "977ad168")
}

// Paths have as many times.
func TestCountsOfTimes(t *testing.T) {
	s := sectionBy(4, 4, 1)
	for many := 1; many <= 32; many++ {
		for _, times := range []int{0, 1, many - 1, many, many + 1, 32, 33, 64} {
			_, off := impl.OffTimes(s, pathsBy(many, 1), make([]float32, times), 4)
			_, pulled := impl.PullPaths(s, pathsBy(many, 1), make([]float32, times), 4, 1, 1)
			_, still := impl.PullPaths(s, pathsBy(many, 1), make([]float32, times), 4, 1, 0)
			isShown(t, show(many, times), show(off, pulled, still), show(many == times, many == times, many == times))
			if many != times {
				isShown(t, show(many, times), show(impl.OffTimes(s, pathsBy(many, 1), make([]float32, times), 4)), noNumber)
				isShown(t, show(many, times), show(impl.PullPaths(s, pathsBy(many, 1), make([]float32, times), 4, 1, 1)), noSection)
			}
		}
	}
}

// The farthest time is found at each place, and on both sides.
func TestOffTimesEverywhere(t *testing.T) {
	s, list := sectionBy(6, 6, 2), pathsBy(32, 3)
	along, _ := impl.TimesAlong(s, list, 9)
	for i := range list {
		for _, by := range []float32{64, -64, 0.5, -0.5} {
			times := withNumber(along, i, along[i]+by)
			want := float32(math.Abs(float64(times[i] - along[i])))
			isShown(t, show(i, by), show(impl.OffTimes(s, list, times, 9)), show(want, true))
			others := filled(32, notNumber())
			others[i] = times[i]
			isShown(t, show(i, by), show(impl.OffTimes(s, list, others, 9)), show(want, true))
		}
	}
	isShown(t, "none", show(impl.OffTimes(s, list, slices.Clone(along), 9)), show(float32(0), true))
	isShown(t, "not-a-numbers", show(impl.OffTimes(s, list, filled(32, notNumber()), 9)), show(float32(0), true))
}
