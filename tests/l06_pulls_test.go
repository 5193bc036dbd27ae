package tests

import (
	"math"
	"strings"
	"testing"

	"loop.example/g01231/impl"
)

func TestPullPath(t *testing.T) {
	minus, inf, nan, high, tiny := minusZero(), infinite(), notNumber(), float32(math.MaxFloat32), num(1)
	for _, c := range []struct {
		s     impl.Section
		p     impl.Path
		time  float32
		parts int64
		share float32
		want  string
	}{
		{sectionOf(2, 1, 1, 2), pathOf(0, 0.5, 2, 0.5), 5, 4, 1, "2x1:40000000,40400000,;true;"},
		{sectionOf(2, 1, 1, 2), pathOf(0, 0.5, 2, 0.5), 5, 4, 0.5, "2x1:3fc00000,40200000,;true;"},
		{sectionOf(2, 1, 1, 2), pathOf(0, 0.5, 2, 0.5), 5, 4, 0, "2x1:3f800000,40000000,;true;"},
		{sectionOf(2, 1, 1, 2), pathOf(0, 0.5, 2, 0.5), 5, 4, minus, "2x1:3f800000,40000000,;true;"},
		{sectionOf(2, 1, 1, 2), pathOf(0, 0.5, 2, 0.5), 5, 4, -1, "2x1:00000000,3f800000,;true;"},
		{sectionOf(2, 1, 1, 2), pathOf(0, 0.5, 2, 0.5), 5, 4, 2, "2x1:40400000,40800000,;true;"},
		{sectionOf(2, 1, 1, 2), pathOf(0, 0.5, 2, 0.5), 5, 4, inf, "2x1:7f800000,7f800000,;true;"},
		{sectionOf(2, 1, 1, 2), pathOf(0, 0.5, 2, 0.5), 5, 4, nan, "2x1:7fc00000,7fc00000,;true;"},
		{sectionOf(2, 1, 1, 2), pathOf(0, 0.5, 2, 0.5), 3, 4, inf, "2x1:7fc00000,7fc00000,;true;"},
		{sectionOf(2, 1, 1, 2), pathOf(0, 0.5, 2, 0.5), 3, 4, 1, "2x1:3f800000,40000000,;true;"},
		{sectionOf(2, 1, 1, 2), pathOf(0, 0.5, 2, 0.5), inf, 4, 1, "2x1:7f800000,7f800000,;true;"},
		{sectionOf(2, 1, 1, 2), pathOf(0, 0.5, 2, 0.5), -inf, 4, 1, "2x1:ff800000,ff800000,;true;"},
		{sectionOf(2, 1, 1, 2), pathOf(0, 0.5, 2, 0.5), nan, 4, 1, "2x1:7fc00000,7fc00000,;true;"},
		{sectionOf(2, 1, 1, 2), pathOf(0, 0.5, 2, 0.5), inf, 4, 0, "2x1:7fc00000,7fc00000,;true;"},
		{sectionOf(2, 1, 1, 2), pathOf(0, 0.5, 2, 0.5), minus, 4, 1, "2x1:bf000000,3f000000,;true;"},
		{sectionOf(2, 1, 1, 2), pathOf(0, 0.5, 2, 0.5), high, 4, 1, "2x1:7effffff,7effffff,;true;"},
		{sectionOf(2, 1, 1, 2), pathOf(0, 0.5, 2, 0.5), -high, 4, 3, "2x1:ff800000,ff800000,;true;"},
		{sectionOf(2, 2, 1, 2, 3, 4), pathOf(0, 0.5, 2, 0.5), 5, 4, 1, "2x2:40000000,40400000,40400000,40800000,;true;"},
		{sectionOf(2, 2, 1, 2, 3, 4), pathOf(0, 0.5, 2, 0.5), inf, 4, 1, "2x2:7f800000,7f800000,7fc00000,7fc00000,;true;"},
		{sectionOf(2, 2, 1, 2, 3, 4), pathOf(0, 0.5, 2, 0.5), 5, 4, inf, "2x2:7f800000,7f800000,7fc00000,7fc00000,;true;"},
		{sectionOf(2, 2, minus, minus, minus, minus), pathOf(0, 0.5, 2, 0.5), 5, 4, 1, "2x2:40200000,40200000,00000000,00000000,;true;"},
		{sectionOf(2, 2, minus, minus, minus, minus), pathOf(0, 0.5, 2, 0.5), -5, 4, 1, "2x2:c0200000,c0200000,80000000,80000000,;true;"},
		{sectionOf(2, 2, minus, minus, minus, minus), pathOf(0, 0.5, 2, 0.5), 0, 4, 1, "2x2:00000000,00000000,00000000,00000000,;true;"},
		{sectionOf(2, 2, minus, minus, minus, minus), pathOf(0, 0.5, 2, 0.5), 5, 4, 0, "2x2:00000000,00000000,00000000,00000000,;true;"},
		{sectionOf(2, 2, minus, minus, minus, minus), pathOf(0, 0.5, 2, 0.5), 5, 4, minus, "2x2:80000000,80000000,80000000,80000000,;true;"},
		{sectionOf(2, 2, 1, 2, nan, 4), pathOf(0, 0.5, 2, 0.5), 5, 4, 1, "2x2:7fc00000,7fc00000,7fc00000,7fc00000,;true;"},
		{sectionOf(2, 2, 1, 2, inf, 4), pathOf(0, 0.5, 2, 0.5), 5, 4, 1, "2x2:7fc00000,7fc00000,7fc00000,7fc00000,;true;"},
		{sectionOf(2, 2, minus, minus, nan, minus), pathOf(0, 0.5, 2, 0.5), 5, 4, 1, "2x2:7fc00000,7fc00000,7fc00000,7fc00000,;true;"},
		{sectionOf(2, 2, 0.1, 0.7, -0.3, 0.9), pathOf(0.1, 0.2, 1.9, 1.7), 1.3, 9, 1, "2x2:3e0ad26c,3f3579f3,be99999a,3f6f8168,;true;"},
		{sectionOf(2, 2, 0.1, 0.7, -0.3, 0.9), pathOf(0.1, 0.2, 1.9, 1.7), 1.3, 9, 0.3, "2x2:3de2a737,3f33e206,be99999a,3f6921b3,;true;"},
		{sectionOf(2, 2, 0.1, 0.7, -0.3, 0.9), pathOf(-0.7, 0.2, 2.9, 1.7), 1.3, 11, 0.7, "2x2:3e6b851c,3f3e4b17,be99999a,3f7c962f,;true;"},
		{sectionOf(1, 1, 3), pathOf(0.5, 0.5, 0.5, 0.5), 5, 4, 1, "1x1:40400000,;true;"},
		{sectionOf(1, 1, 3), pathOf(5, 5, 6, 6), 5, 4, 1, "1x1:40400000,;true;"},
		{sectionOf(1, 1, minus), pathOf(5, 5, 6, 6), 5, 4, inf, "1x1:80000000,;true;"},
		{sectionOf(1, 1, nan), pathOf(5, 5, 6, 6), 5, 4, 1, "1x1:7fc00000,;true;"},
		{sectionOf(1, 1, 3), pathOf(0, 0, 1e-22, 0), 5, 1, 1, "1x1:7f800000,;true;"},
		{sectionOf(1, 2, 3, 4), pathOf(0, 0, 1e-22, 0), 5, 1, 1, "1x2:7f800000,7fc00000,;true;"},
		{sectionOf(1, 2, 3, 4), pathOf(0, 0, 1e-22, 0), 5, 1, 0, "1x2:7fc00000,7fc00000,;true;"},
		{sectionOf(1, 1, 3), pathOf(0, 0, 1e-23, 0), 5, 1, 1, "1x1:40400000,;true;"},
		{sectionOf(1, 1, 3), pathOf(0, 0, tiny, tiny), 5, 1, 1, "1x1:40400000,;true;"},
		{sectionOf(1, 2, 3, 4), pathOf(0, 0, 1e-18, 0), 5, 1, 1, "1x2:5e8ac722,40800000,;true;"},
		{sectionOf(1, 1, 3), pathOf(-1000, 0, 1000, 0), 5, 3, 1, "1x1:3bf5c200,;true;"},
		{sectionOf(1, 2, high, high), pathOf(0, 0, 0, 2), 5, 4, 1, "1x2:ff800000,ff800000,;true;"},
		{sectionOf(1, 2, high, 1), pathOf(0, 0, 0, 1), -high, 4, 1, "1x2:ff800000,7fc00000,;true;"},
		{sectionOf(1, 2, num(1), num(3)), pathOf(0, 0, 0, 2), num(9), 4, 1, "1x2:00000003,00000005,;true;"},
		{sectionOf(2, 1, 1, 2), pathOf(0, 0.5, 2, 0.5), 5, 0, 1, "0x0:;false;"},
		{sectionOf(2, 1, 1, 2), pathOf(0, 0.5, 2, 0.5), 5, 257, 1, "0x0:;false;"},
		{sectionOf(2, 1, 1, 2), pathOf(0, 0.5, nan, 0.5), 5, 4, 1, "0x0:;false;"},
		{sectionOf(2, 1, 1), pathOf(0, 0.5, 2, 0.5), 5, 4, 1, "0x0:;false;"},
	} {
		isShown(t, show(c.s, c.p, c.time, c.parts, c.share), show(impl.PullPath(c.s, c.p, c.time, c.parts, c.share)), c.want)
	}
	var all strings.Builder
	for k, s := range someSections() {
		for _, p := range append(edgePaths(), pathsBy(5, uint32(k))...) {
			for _, share := range []float32{1, 0.3, -1, 0} {
				all.WriteString(show(impl.PullPath(s, p, 2.7, 10, share)))
			}
		}
	}
	isShown(t, "some", digest(all.String()), "bcf9c216")
}

func TestPullsOfEveryKind(t *testing.T) {
	var all strings.Builder
	for _, s := range []impl.Section{sectionBy(4, 4, 1), oddSection(), zeroSection()} {
		for _, time := range someNumbers() {
			for _, share := range someNumbers() {
				all.WriteString(show(impl.PullPath(s, pathOf(-0.5, 0.2, 3.5, 2.9), time, 7, share)))
				all.WriteString(show(impl.PullPath(s, pathOf(9, 9, 9, 9), time, 7, share)))
			}
		}
	}
	isShown(t, "all", digest(all.String()), "a96da014")
}

func TestPullPaths(t *testing.T) {
	minus, inf, nan := minusZero(), infinite(), notNumber()
	for _, c := range []struct {
		s      impl.Section
		list   []impl.Path
		times  []float32
		parts  int64
		share  float32
		rounds int64
		want   string
	}{
		{sectionOf(2, 1, 1, 2), paths(pathOf(0, 0.5, 2, 0.5)), nums(5), 4, 0.5, 2, "2x1:3fe00000,40300000,;true;"},
		{sectionOf(2, 1, 1, 2), paths(pathOf(0, 0.5, 2, 0.5)), nums(5), 4, 1, 0, "2x1:3f800000,40000000,;true;"},
		{sectionOf(2, 1, 1, 2), paths(pathOf(0, 0.5, 2, 0.5)), nums(5), 4, 1, 1, "2x1:40000000,40400000,;true;"},
		{sectionOf(2, 1, 1, 2), paths(pathOf(0, 0.5, 2, 0.5)), nums(5), 4, 0.5, 40, "2x1:3fffffff,40400000,;true;"},
		{sectionOf(2, 1, 1, 2), paths(pathOf(0, 0.5, 2, 0.5)), nums(5), 4, -1, 3, "2x1:c0c00000,c0a00000,;true;"},
		{sectionOf(2, 1, 1, 2), paths(pathOf(0, 0.5, 2, 0.5)), nums(5), 4, 0, 40, "2x1:3f800000,40000000,;true;"},
		{sectionOf(2, 2, 1, 2, 3, 4), paths(pathOf(0, 0.5, 2, 0.5), pathOf(1.5, 0, 1.5, 2), pathOf(0, 0, 2, 2)), nums(5, 1, 3), 4, 1, 1, "2x2:3fc7c3b7,00000000,40400000,3f0f876e,;true;"},
		{sectionOf(2, 2, 1, 2, 3, 4), paths(pathOf(0, 0, 2, 2), pathOf(1.5, 0, 1.5, 2), pathOf(0, 0.5, 2, 0.5)), nums(3, 1, 5), 4, 1, 1, "2x2:400ae964,4035169c,40400000,3f47c3b4,;true;"},
		{sectionOf(2, 2, 1, 2, 3, 4), paths(pathOf(0, 0.5, 2, 0.5), pathOf(1.5, 0, 1.5, 2), pathOf(0, 0, 2, 2)), nums(5, 1, 3), 4, 1, 2, "2x2:402f65a0,3f8a2d36,40400000,bf1e87a6,;true;"},
		{sectionOf(2, 2, 1, 2, 3, 4), paths(pathOf(0, 0.5, 2, 0.5), pathOf(1.5, 0, 1.5, 2), pathOf(0, 0, 2, 2)), nums(5, 1, 3), 4, 0.3, 7, "2x2:400b7d2d,3fc1d4a8,40400000,3e5c2305,;true;"},
		{sectionOf(2, 2, 1, 2, 3, 4), paths(pathOf(0, 0.5, 2, 0.5), pathOf(1.5, 0, 1.5, 2), pathOf(0, 0, 2, 2)), nums(5, 1, 3), 4, 1, 40, "2x2:4043e1dc,3ff83c4a,40400000,bf707894,;true;"},
		{sectionOf(2, 2, 0.1, 0.2, 0.3, 0.7), paths(pathOf(0, 0.5, 2, 0.5), pathOf(1.5, 0, 1.5, 2), pathOf(0, 0, 2, 2)), nums(5, 1, 3), 13, 0.9, 40, "2x2:4049dcd5,3ff83c49,3e99999a,bf3bd50f,;true;"},
		{sectionOf(2, 2, 1, 2, 3, 4), paths(pathOf(0, 0.5, 2, 0.5), pathOf(1.5, 0, 1.5, 2), pathOf(0, 0, 2, 2)), nums(5, inf, 3), 4, 1, 2, "2x2:7fc00000,7fc00000,7fc00000,7fc00000,;true;"},
		{sectionOf(2, 2, 1, 2, 3, 4), paths(pathOf(0, 0.5, 2, 0.5), pathOf(1.5, 0, 1.5, 2), pathOf(0, 0, 2, 2)), nums(5, nan, 3), 4, 1, 1, "2x2:7fc00000,7fc00000,7fc00000,7fc00000,;true;"},
		{sectionOf(2, 2, 1, 2, 3, 4), paths(pathOf(0, 0.5, 2, 0.5), pathOf(1.5, 0, 1.5, 2), pathOf(0, 0, 2, 2)), nums(5, 1, 3), 4, inf, 1, "2x2:7fc00000,7fc00000,7fc00000,7fc00000,;true;"},
		{sectionOf(2, 2, 1, 2, 3, 4), paths(pathOf(0, 0.5, 2, 0.5), pathOf(1.5, 0, 1.5, 2), pathOf(0, 0, 2, 2)), nums(5, 1, 3), 4, nan, 1, "2x2:7fc00000,7fc00000,7fc00000,7fc00000,;true;"},
		{sectionOf(2, 2, 1, 2, 3, 4), paths(pathOf(0, 0.5, 2, 0.5), pathOf(1.5, 0, 1.5, 2), pathOf(0, 0, 2, 2)), nums(5, 1, 3), 4, nan, 0, "2x2:3f800000,40000000,40400000,40800000,;true;"},
		{sectionOf(2, 2, nan, inf, minus, 4), paths(pathOf(0, 0.5, 2, 0.5), pathOf(1.5, 0, 1.5, 2), pathOf(0, 0, 2, 2)), nums(5, 1, 3), 4, 1, 0, "2x2:7fc00000,7f800000,80000000,40800000,;true;"},
		{sectionOf(2, 2, minus, minus, minus, minus), paths(pathOf(0, 0.5, 2, 0.5), pathOf(1.5, 0, 1.5, 2), pathOf(0, 0, 2, 2)), nums(5, 1, 3), 4, minus, 1, "2x2:80000000,80000000,80000000,80000000,;true;"},
		{sectionOf(2, 2, minus, minus, minus, minus), paths(pathOf(0, 0.5, 2, 0.5), pathOf(1.5, 0, 1.5, 2), pathOf(0, 0, 2, 2)), nums(5, 1, 3), 4, 0, 1, "2x2:00000000,00000000,00000000,00000000,;true;"},
		{sectionOf(2, 2, 1, 2, 3, 4), paths(pathOf(9, 9, 9, 9), pathOf(-5, 0, -1, 2)), nums(5, 1), 4, 1, 40, "2x2:3f800000,40000000,40400000,40800000,;true;"},
		{sectionOf(2, 2, 1, 2, 3, 4), paths(pathOf(9, 9, 9, 9), pathOf(0, 0.5, 2, 0.5)), nums(5, 1), 4, 1, 2, "2x2:00000000,3f800000,40400000,40800000,;true;"},
		{sectionOf(2, 2, 1, 2, 3, 4), paths(pathOf(0, 0.5, 2, 0.5), pathOf(1.5, 0, 1.5, 2), pathOf(0, 0, 2, 2)), nums(5, 1, 3), 4, -2, 40, "2x2:7fc00000,7fc00000,7fc00000,7fc00000,;true;"},
		{sectionOf(2, 2, 1, 2, 3, 4), paths(pathOf(0, 0.5, 2, 0.5), pathOf(1.5, 0, 1.5, 2), pathOf(0, 0, 2, 2)), nums(5, 1, 3), 4, 3, 40, "2x2:df287240,5dbe2828,40400000,de07e8d0,;true;"},
		{sectionOf(2, 2, 1, 2, 3, 4), paths(pathOf(0, 0.5, 2, 0.5), pathOf(1.5, 0, 1.5, 2), pathOf(0, 0, 2, 2)), nums(5, 1, 3), 4, 1, -1, "0x0:;false;"},
		{sectionOf(2, 2, 1, 2, 3, 4), paths(pathOf(0, 0.5, 2, 0.5), pathOf(1.5, 0, 1.5, 2), pathOf(0, 0, 2, 2)), nums(5, 1, 3), 4, 1, 41, "0x0:;false;"},
		{sectionOf(2, 2, 1, 2, 3, 4), paths(pathOf(0, 0.5, 2, 0.5), pathOf(1.5, 0, 1.5, 2), pathOf(0, 0, 2, 2)), nums(5, 1), 4, 1, 1, "0x0:;false;"},
		{sectionOf(2, 2, 1, 2, 3, 4), paths(pathOf(0, 0.5, 2, 0.5), pathOf(1.5, 0, 1.5, 2), pathOf(0, 0, 2, 2)), nums(5, 1, 3, 4), 4, 1, 1, "0x0:;false;"},
		{sectionOf(2, 2, 1, 2, 3, 4), paths(), nums(), 4, 1, 1, "0x0:;false;"},
		{sectionOf(2, 2, 1, 2, 3, 4), paths(), nums(), 4, 1, 0, "0x0:;false;"},
		{sectionOf(2, 2, 1, 2, 3, 4), paths(pathOf(0, 0.5, 2, 0.5), pathOf(1.5, 0, 1.5, 2), pathOf(0, 0, 2, 2)), nums(5, 1, 3), 0, 1, 0, "0x0:;false;"},
		{sectionOf(2, 2, 1, 2, 3, 4), paths(pathOf(0, 0.5, 2, 0.5), pathOf(1.5, 0, 1.5, 2), pathOf(0, 0, 2, 2)), nums(5, 1, 3), 257, 1, 1, "0x0:;false;"},
		{sectionOf(2, 2, 1, 2, 3), paths(pathOf(0, 0.5, 2, 0.5), pathOf(1.5, 0, 1.5, 2), pathOf(0, 0, 2, 2)), nums(5, 1, 3), 4, 1, 1, "0x0:;false;"},
		{sectionOf(2, 2, 1, 2, 3, 4), paths(pathOf(0, 0.5, 2, 0.5), pathOf(0, 0, 2000, 0)), nums(5, 1), 4, 1, 0, "0x0:;false;"},
	} {
		isShown(t, show(c.s, c.list, c.times, c.parts, c.share, c.rounds),
			show(impl.PullPaths(c.s, c.list, c.times, c.parts, c.share, c.rounds)), c.want)
	}
}

func TestPullsOfManyPaths(t *testing.T) {
	for _, c := range []struct {
		wide, deep    int64
		count         int
		parts, rounds int64
		share         float32
		want          string
	}{
		{6, 6, 1, 9, 3, 1, "631feea0"},
		{6, 6, 2, 9, 3, 0.5, "bad997ee"},
		{6, 6, 7, 20, 4, 1, "452ae457"},
		{9, 9, 16, 20, 2, 0.7, "a4a4d7e6"},
		{16, 16, 32, 11, 2, 0.9, "21b35594"},
		{4, 8, 32, 16, 5, -0.2, "0fa6db03"},
		{8, 4, 20, 50, 3, 1.5, "9d648e79"},
		{1, 1, 32, 5, 2, 1, "250b2dad"},
		{3, 3, 5, 13, 40, 0.4, "443cd472"},
	} {
		s := sectionBy(c.wide, c.deep, uint32(c.count))
		got := show(impl.PullPaths(s, pathsBy(c.count, 5), wavy(c.count, 6), c.parts, c.share, c.rounds))
		isShown(t, show(c.wide, c.deep, c.count, c.parts, c.rounds, c.share), digest(got), c.want)
	}
}

func TestPullsOfNothing(t *testing.T) {
	s, p := sectionBy(4, 4, 1), pathOf(0, 0.5, 2, 0.5)
	for _, parts := range noParts() {
		isShown(t, show(parts), show(impl.PullPath(s, p, 1, parts, 1)), noSection)
		for _, rounds := range []int64{0, 1, 40} {
			isShown(t, show(parts, rounds), show(impl.PullPaths(s, paths(p), nums(1), parts, 1, rounds)), noSection)
		}
	}
	for _, bad := range noPathsOfSections() {
		isShown(t, show(bad), show(impl.PullPath(s, bad, 1, 4, 1)), noSection)
	}
	for _, list := range noPathLists() {
		for _, rounds := range []int64{0, 1, 40} {
			isShown(t, show(list, rounds), show(impl.PullPaths(s, list, make([]float32, len(list)), 4, 1, rounds)), noSection)
		}
	}
	for _, rounds := range beyond(0, 40) {
		isShown(t, show(rounds), show(impl.PullPaths(s, paths(p), nums(1), 4, 1, rounds)), noSection)
	}
}

func TestPullsAtTheirLimits(t *testing.T) {
	s, p := sectionBy(16, 16, 1), pathOf(0, 0.5, 2, 0.5)
	for _, parts := range []int64{1, 256} {
		_, one := impl.PullPath(s, p, 1, parts, 1)
		isShown(t, show(parts), show(one), "true;")
		for _, rounds := range []int64{0, 1, 39, 40} {
			for _, count := range []int{1, 32} {
				_, many := impl.PullPaths(s, pathsBy(count, 1), wavy(count, 2), parts, 1, rounds)
				isShown(t, show(parts, rounds, count), show(many), "true;")
			}
		}
	}
}

// Where a path has no length in a section, nothing is pulled, whatever the time
// and the share are.
func TestPathsThatPullNothing(t *testing.T) {
	still := append(edgePaths()[20:25], pathOf(-3, 0, -1, 4), pathOf(5, 0, 9, 4), pathOf(0, -3, 4, -1), pathOf(0, 5, 4, 9), pathOf(0, 0, 1e-30, 0),
		pathOf(4, 0, 4, 4), pathOf(0, 4, 4, 4), pathOf(-1e-9, 0, -1e-9, 4))
	for _, s := range []impl.Section{sectionBy(4, 4, 1), sectionOf(4, 4, someNumbers()[8:]...)} {
		for _, p := range still {
			for _, time := range someNumbers() {
				isShown(t, show(s, p, time), show(impl.PullPath(s, p, time, 5, time)), show(s, true))
				isShown(t, show(s, p, time), show(impl.PullPaths(s, paths(p, p), nums(time, 3), 5, 1, 40)), show(s, true))
			}
		}
	}
}
