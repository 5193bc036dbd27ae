package tests

import (
	"fmt"
	"math"
	"strings"
	"testing"

	"loop.example/g01231/impl"
)

// The tables and digests of chapter 6 were computed by another program, as the
// document tells: cell by cell and part by part, and without any short cut.

// What functions of chapter 6 return where they fail.
const (
	noSection = "0x0:;false;"
	noFit     = "0x0:;;false;"
	noCell    = "0;0;00000000;false;"
	noHits    = "[];false;"
)

// showSection writes all numbers of a section by their bits.
func showSection(s impl.Section) string {
	var b strings.Builder
	fmt.Fprintf(&b, "%dx%d:", s.Wide, s.Deep)
	showWords(&b, s.Values)
	return b.String()
}

func sectionOf(wide, deep int64, values ...float32) impl.Section {
	return impl.Section{Wide: wide, Deep: deep, Values: values}
}

// sectionBy returns a section of a small rule.
func sectionBy(wide, deep int64, seed uint32) impl.Section {
	return sectionOf(wide, deep, wavy(int(wide*deep), seed)...)
}

// pulseSection has the value 1 in a cell, and +0 in all others.
func pulseSection(wide, deep, cell int64) impl.Section {
	s := sectionOf(wide, deep, make([]float32, wide*deep)...)
	s.Values[cell] = 1
	return s
}

// oddSection has numbers of every kind.
func oddSection() impl.Section {
	return sectionOf(6, 4, someNumbers()...)
}

// zeroSection has zeros of both signs.
func zeroSection() impl.Section {
	minus := minusZero()
	return sectionOf(3, 4, 0, minus, 0, minus, minus, minus, 0, minus, minus, 0, 0, minus)
}

// plainSections have finite numbers only.
func plainSections() []impl.Section {
	var list []impl.Section
	for k, size := range [][2]int64{{1, 1}, {1, 2}, {2, 1}, {1, 16}, {16, 1}, {2, 2}, {5, 4}, {3, 7}, {9, 9}, {16, 16}} {
		list = append(list, sectionBy(size[0], size[1], uint32(k+1)))
	}
	return list
}

// someSections are valid sections of many sizes.
func someSections() []impl.Section {
	return append(plainSections(), oddSection(), zeroSection())
}

// noSizes are no sizes of sections. The products of some of them overflow, and are
// 0, 1 or 256 then.
func noSizes() [][2]int64 {
	list := [][2]int64{{-1, -1}, {-4, -4}, {-16, -16}, {1 << 32, 1 << 32}, {1 << 62, 4}, {math.MinInt64, 2}, {math.MaxInt64, math.MaxInt64},
		{math.MinInt64, math.MinInt64}, {1 << 32, 1<<32 + 1}, {256, 1}, {1, 256}, {128, 2}, {2, math.MinInt64 + 8}}
	for _, n := range []int64{0, 17, -1, 18, 1<<32 + 1, math.MaxInt64, math.MinInt64} {
		list = append(list, [2]int64{n, 1}, [2]int64{1, n}, [2]int64{n, 16}, [2]int64{16, n}, [2]int64{n, n})
	}
	return list
}

// noSections are sections that are not valid.
func noSections() []impl.Section {
	list := []impl.Section{{}, {Values: ones[float32](1)}}
	for _, size := range noSizes() {
		// The product may overflow: that many values make no section of it.
		list = append(list, impl.Section{Wide: size[0], Deep: size[1]}, sectionOf(size[0], size[1], 1))
		if count := size[0] * size[1]; 1 < count && count <= 300 {
			list = append(list, sectionOf(size[0], size[1], ones[float32](int(count))...))
		}
	}
	for _, size := range [][2]int64{{1, 1}, {3, 2}, {16, 1}, {1, 16}, {16, 16}} {
		count := int(size[0] * size[1])
		list = append(list, impl.Section{Wide: size[0], Deep: size[1]}, sectionOf(size[0], size[1], ones[float32](count-1)...),
			sectionOf(size[0], size[1], ones[float32](count+1)...), sectionOf(size[0], size[1], ones[float32](2*count)...))
	}
	return list
}

func pathOf(fromX, fromZ, toX, toZ float32) impl.Path {
	return impl.Path{FromX: fromX, FromZ: fromZ, ToX: toX, ToZ: toZ}
}

func paths(list ...impl.Path) []impl.Path {
	return list
}

func nums(list ...float32) []float32 {
	return list
}

// pathsBy returns so many paths of a small rule, with ends from -3.5 to 9.5.
func pathsBy(count int, seed uint32) []impl.Path {
	list := make([]impl.Path, count)
	ends := wavy(4*count, seed)
	for k, x := range ends {
		ends[k] = float32(x*4) + 3
	}
	for i := range list {
		list[i] = pathOf(ends[4*i], ends[4*i+1], ends[4*i+2], ends[4*i+3])
	}
	return list
}

// edgePaths go along borders, through corners and outside of a section that is 4
// wide and 4 deep, or have no length.
func edgePaths() []impl.Path {
	minus, tiny := minusZero(), num(1)
	return paths(
		pathOf(0, 0.5, 4, 0.5), pathOf(4, 0.5, 0, 0.5), pathOf(1.5, 0, 1.5, 4), pathOf(0, 0, 4, 4), pathOf(4, 0, 0, 4),
		pathOf(0, 1, 4, 1), pathOf(2, 0, 2, 4), pathOf(2, 4, 2, 0), pathOf(0, 0, 4, 0), pathOf(0, 0, 0, 4),
		pathOf(minus, minus, minus, 4), pathOf(minus, 4, minus, minus), pathOf(4, 0, 4, 4), pathOf(0, 4, 4, 4),
		pathOf(just(4, -1), 0, just(4, -1), 4), pathOf(0, just(4, -1), 4, just(4, -1)),
		pathOf(-tiny, 0, -tiny, 4), pathOf(0, -tiny, 4, -tiny), pathOf(-tiny, -tiny, tiny, tiny), pathOf(-1e-9, 0, 1e-9, 4),
		pathOf(1.5, 2.5, 1.5, 2.5), pathOf(2, 2, 2, 2), pathOf(4, 4, 4, 4), pathOf(minus, minus, minus, minus), pathOf(-5, 1, -5, 1),
		pathOf(1.5, 2.5, 1.5, just(2.5, 1)), pathOf(0, 0, tiny, 0), pathOf(0, 0, 1e-23, 1e-22), pathOf(0.5, 0.5, 0.5, 0.75),
		pathOf(-2, 1.5, 6, 1.5), pathOf(1.5, -3, 2.5, 7), pathOf(-3, -3, 7, 7), pathOf(6, -2, -2, 6), pathOf(-1, 2, 3, -2),
		pathOf(-3, 0, -1, 4), pathOf(5, 0, 9, 4), pathOf(0, -3, 4, -1), pathOf(0, 5, 4, 9), pathOf(-9, -9, -1, -1), pathOf(5, 5, 9, 9),
		pathOf(-1000, -1000, 1000, 1000), pathOf(1000, -1000, -1000, 1000), pathOf(-1000, 2.5, 1000, 2.5), pathOf(0.5, 1000, 0.5, -1000),
		pathOf(1000, 1000, 1000, 1000), pathOf(0.1, 0.2, 3.3, 2.7), pathOf(3.9, 0.1, 0.3, 3.7))
}

// noPathsOfSections are paths that are none, the first ones of them by the least.
func noPathsOfSections() []impl.Path {
	var list []impl.Path
	for _, x := range []float32{just(1000, 1), -just(1000, 1), 1001, -1001, 1e30, -1e30, math.MaxFloat32, infinite(), -infinite(), notNumber()} {
		list = append(list, pathOf(x, 1, 2, 3), pathOf(1, x, 2, 3), pathOf(1, 2, x, 3), pathOf(1, 2, 3, x), pathOf(x, x, x, x))
	}
	return list
}

// noPathLists are lists with too few paths, too many, or a bad one.
func noPathLists() [][]impl.Path {
	list := [][]impl.Path{nil, {}, pathsBy(33, 1), pathsBy(34, 2), pathsBy(1000, 3)}
	for k, p := range noPathsOfSections() {
		list = append(list, paths(p))
		bad := pathsBy(k%32+1, uint32(k))
		bad[k*7%len(bad)] = p
		list = append(list, bad)
	}
	return list
}

// noParts are numbers of parts that are too few or too many.
func noParts() []int64 {
	return beyond(1, 256)
}

func TestLimitsOfPictures(t *testing.T) {
	isShown(t, "limits", show(int64(impl.MaxSide), int64(impl.MaxPaths)), "16;32;")
}
