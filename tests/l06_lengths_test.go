package tests

import (
	"strings"
	"testing"

	"loop.example/g01231/impl"
)

func TestIsPath(t *testing.T) {
	good := append(edgePaths(), pathsBy(50, 1)...)
	for _, x := range []float32{1000, -1000, 999.99994, -999.99994, 0, minusZero(), num(1), -num(1), 0.1} {
		good = append(good, pathOf(x, 1, 2, 3), pathOf(1, x, 2, 3), pathOf(1, 2, x, 3), pathOf(1, 2, 3, x), pathOf(x, x, x, x))
	}
	for _, p := range good {
		isShown(t, show(p), show(impl.IsPath(p)), "true;")
	}
	for _, p := range noPathsOfSections() {
		isShown(t, show(p), show(impl.IsPath(p)), "false;")
	}
}

func TestLengthsOf(t *testing.T) {
	minus, tiny := minusZero(), num(1)
	for _, c := range []struct {
		wide, deep int64
		p          impl.Path
		parts      int64
		want       string
	}{
		{2, 1, pathOf(0, 0.5, 2, 0.5), 4, "3f800000,3f800000,;true;"},
		{2, 1, pathOf(2, 0.5, 0, 0.5), 4, "3f800000,3f800000,;true;"},
		{1, 1, pathOf(0, 0.5, 2, 0.5), 4, "3f800000,;true;"},
		{2, 1, pathOf(0, 0.5, 2, 0.5), 1, "00000000,40000000,;true;"},
		{2, 1, pathOf(0, 0.5, 2, 0.5), 2, "3f800000,3f800000,;true;"},
		{2, 1, pathOf(0, 0.5, 2, 0.5), 3, "3f2aaaab,3faaaaab,;true;"},
		{3, 1, pathOf(0, 0.5, 3, 0.5), 7, "3f5b6db7,3fa49249,3f5b6db7,;true;"},
		{2, 2, pathOf(0, 0, 2, 2), 2, "3fb504f3,00000000,00000000,3fb504f3,;true;"},
		{2, 2, pathOf(0, 0, 2, 2), 3, "3f715bef,00000000,00000000,3ff15bef,;true;"},
		{2, 2, pathOf(0, 0, 1, 1), 1, "3fb504f3,00000000,00000000,00000000,;true;"},
		{2, 2, pathOf(2, 0, 0, 2), 4, "00000000,3fb504f3,3fb504f3,00000000,;true;"},
		{2, 2, pathOf(0, 1, 2, 1), 4, "00000000,00000000,3f800000,3f800000,;true;"},
		{2, 2, pathOf(1, 0, 1, 2), 4, "00000000,3f800000,00000000,3f800000,;true;"},
		{2, 2, pathOf(0, 2, 2, 2), 4, "00000000,00000000,00000000,00000000,;true;"},
		{2, 2, pathOf(2, 0, 2, 2), 4, "00000000,00000000,00000000,00000000,;true;"},
		{2, 2, pathOf(0, 0, 2, 0), 4, "3f800000,3f800000,00000000,00000000,;true;"},
		{2, 2, pathOf(0, 0, 0, 2), 4, "3f800000,00000000,3f800000,00000000,;true;"},
		{2, 2, pathOf(minus, minus, minus, 2), 4, "3f800000,00000000,3f800000,00000000,;true;"},
		{2, 2, pathOf(-tiny, 0, -tiny, 2), 4, "00000000,00000000,00000000,00000000,;true;"},
		{2, 2, pathOf(0, -tiny, 2, -tiny), 4, "00000000,00000000,00000000,00000000,;true;"},
		{2, 2, pathOf(-1, 0.5, 3, 0.5), 8, "3f800000,3f800000,00000000,00000000,;true;"},
		{2, 2, pathOf(0.5, -1, 0.5, 3), 8, "3f800000,00000000,3f800000,00000000,;true;"},
		{2, 2, pathOf(-1, -1, 3, 3), 8, "3fb504f3,00000000,00000000,3fb504f3,;true;"},
		{2, 2, pathOf(3, -1, -1, 3), 8, "00000000,3fb504f3,3fb504f3,00000000,;true;"},
		{2, 2, pathOf(-0.5, 0.5, 0.5, 0.5), 1, "3f800000,00000000,00000000,00000000,;true;"},
		{2, 2, pathOf(-0.5, 0.5, 0.49999997, 0.5), 1, "3f800000,00000000,00000000,00000000,;true;"},
		{2, 2, pathOf(0.5, -0.5, 0.5, 0.49999997), 1, "3f800000,00000000,00000000,00000000,;true;"},
		{2, 2, pathOf(-2, 0, -1, 2), 4, "00000000,00000000,00000000,00000000,;true;"},
		{2, 2, pathOf(3, 0, 3, 2), 4, "00000000,00000000,00000000,00000000,;true;"},
		{2, 2, pathOf(0, -2, 2, -1), 4, "00000000,00000000,00000000,00000000,;true;"},
		{2, 2, pathOf(0, 3, 2, 3), 4, "00000000,00000000,00000000,00000000,;true;"},
		{2, 2, pathOf(0.5, 0.5, 0.5, 0.5), 4, "00000000,00000000,00000000,00000000,;true;"},
		{2, 2, pathOf(2, 2, 2, 2), 4, "00000000,00000000,00000000,00000000,;true;"},
		{2, 2, pathOf(1.5, 0.25, 1.5, 0.75), 256, "00000000,3f000000,00000000,00000000,;true;"},
		{2, 2, pathOf(0.1, 0.2, 1.7, 1.9), 256, "3f8c1244,00000000,3e601d3d,3f82bbb4,;true;"},
		{2, 2, pathOf(0.1, 0.2, 1.7, 1.9), 255, "3f8c9ee4,00000000,3e579e4d,3f833ef4,;true;"},
		{2, 2, pathOf(0.1, 0.2, 1.7, 1.9), 7, "3f8010b6,00000000,3eaac0f3,3f8010b6,;true;"},
		{16, 1, pathOf(-1000, 0.5, 1000, 0.5), 256, "00000000,00000000,00000000,40fa0000,00000000,00000000,00000000,00000000,00000000,00000000,00000000,40fa0000,00000000,00000000,00000000,00000000,;true;"},
		{1, 16, pathOf(0.5, 1000, 0.5, -1000), 256, "00000000,00000000,00000000,40fa0000,00000000,00000000,00000000,00000000,00000000,00000000,00000000,40fa0000,00000000,00000000,00000000,00000000,;true;"},
		{16, 1, pathOf(-1000, -1000, 1000, 1000), 1, "4530c6d6,00000000,00000000,00000000,00000000,00000000,00000000,00000000,00000000,00000000,00000000,00000000,00000000,00000000,00000000,00000000,;true;"},
		{16, 1, pathOf(1000, 1000, 1000, 1000), 1, "00000000,00000000,00000000,00000000,00000000,00000000,00000000,00000000,00000000,00000000,00000000,00000000,00000000,00000000,00000000,00000000,;true;"},
		{1, 1, pathOf(-1000, -1000, 1000, 1000), 256, "00000000,;true;"},
		{1, 1, pathOf(-1000, 0, 1000, 0), 1, "44fa0000,;true;"},
		{1, 1, pathOf(-1000, 0, 1000, 0), 3, "4426aaab,;true;"},
		{1, 1, pathOf(0, 0, 1e-22, 0), 1, "1aef7751,;true;"},
		{1, 1, pathOf(0, 0, 1e-23, 0), 1, "00000000,;true;"},
		{1, 1, pathOf(0, 0, tiny, tiny), 1, "00000000,;true;"},
		{1, 1, pathOf(0, 0, 1e-22, 1e-22), 200, "1b2953f0,;true;"},
		{1, 1, pathOf(0, 0, 0.1, 0.3), 3, "3ea1e89b,;true;"},
		{2, 1, pathOf(0.1, 0.3, 1.3, 0.7), 11, "3f6b80e0,3eb0a0a8,;true;"},
		{0, 1, pathOf(0, 0.5, 2, 0.5), 4, ";false;"},
		{2, 17, pathOf(0, 0.5, 2, 0.5), 4, ";false;"},
		{2, 1, pathOf(0, 0.5, 1001, 0.5), 4, ";false;"},
		{2, 1, pathOf(0, 0.5, 2, 0.5), 0, ";false;"},
		{2, 1, pathOf(0, 0.5, 2, 0.5), 257, ";false;"},
		{7, 1, pathOf(0, 0.5, 6, 0.5), 3, "00000000,40000000,00000000,40000000,00000000,40000000,00000000,;true;"},
		{1, 7, pathOf(0.5, 0, 0.5, 6), 3, "00000000,40000000,00000000,40000000,00000000,40000000,00000000,;true;"},
		{7, 1, pathOf(0, 0.5, 6, 0.5), 9, "3f2aaaab,3faaaaab,3f2aaaab,3faaaaab,3f2aaaab,3faaaaab,00000000,;true;"},
		{1, 7, pathOf(0.5, 0, 0.5, 6), 9, "3f2aaaab,3faaaaab,3f2aaaab,3faaaaab,3f2aaaab,3faaaaab,00000000,;true;"},
		{7, 1, pathOf(1, 0.5, 7, 0.5), 3, "00000000,00000000,40000000,00000000,40000000,00000000,40000000,;true;"},
		{1, 7, pathOf(0.5, 1, 0.5, 7), 3, "00000000,00000000,40000000,00000000,40000000,00000000,40000000,;true;"},
		{7, 1, pathOf(1, 0.5, 7, 0.5), 15, "00000000,3f4ccccd,3f99999a,3f4ccccd,3f99999a,3f4ccccd,3f99999a,;true;"},
		{1, 7, pathOf(0.5, 1, 0.5, 7), 15, "00000000,3f4ccccd,3f99999a,3f4ccccd,3f99999a,3f4ccccd,3f99999a,;true;"},
		{7, 1, pathOf(0.5, 0.5, 3.3, 0.5), 14, "3ecccccd,3f99999a,3f4ccccd,3ecccccd,00000000,00000000,00000000,;true;"},
		{1, 7, pathOf(0.5, 0.5, 0.5, 3.3), 14, "3ecccccd,3f99999a,3f4ccccd,3ecccccd,00000000,00000000,00000000,;true;"},
		{7, 1, pathOf(0.5, 0.5, 6.1, 0.5), 4, "00000000,3fb33333,3fb33333,00000000,3fb33333,3fb33333,00000000,;true;"},
		{1, 7, pathOf(0.5, 0.5, 0.5, 6.1), 4, "00000000,3fb33333,3fb33333,00000000,3fb33333,3fb33333,00000000,;true;"},
		{7, 1, pathOf(0.5, 0.5, 6.1, 0.5), 28, "3ecccccd,3f99999a,3f4ccccd,3f800000,3f800000,3f800000,3e4ccccd,;true;"},
		{1, 7, pathOf(0.5, 0.5, 0.5, 6.1), 28, "3ecccccd,3f99999a,3f4ccccd,3f800000,3f800000,3f800000,3e4ccccd,;true;"},
		{7, 1, pathOf(0.1, 0.5, 6.1, 0.5), 10, "3f19999a,3f99999a,3f99999a,3f99999a,3f19999a,3f99999a,00000000,;true;"},
		{1, 7, pathOf(0.5, 0.1, 0.5, 6.1), 10, "3f19999a,3f99999a,3f99999a,3f99999a,3f19999a,3f99999a,00000000,;true;"},
		{7, 1, pathOf(0.1, 0.5, 3.3, 0.5), 16, "3f4ccccd,3f800000,3f800000,3ecccccd,00000000,00000000,00000000,;true;"},
		{1, 7, pathOf(0.5, 0.1, 0.5, 3.3), 16, "3f4ccccd,3f800000,3f800000,3ecccccd,00000000,00000000,00000000,;true;"},
		{7, 1, pathOf(0.3, 0.5, 3.3, 0.5), 5, "3f19999a,3f99999a,3f99999a,00000000,00000000,00000000,00000000,;true;"},
		{1, 7, pathOf(0.5, 0.3, 0.5, 3.3), 5, "3f19999a,3f99999a,3f99999a,00000000,00000000,00000000,00000000,;true;"},
		{7, 1, pathOf(0.3, 0.5, 3.3, 0.5), 15, "3f19999a,3f800000,3f99999a,3e4ccccd,00000000,00000000,00000000,;true;"},
		{1, 7, pathOf(0.5, 0.3, 0.5, 3.3), 15, "3f19999a,3f800000,3f99999a,3e4ccccd,00000000,00000000,00000000,;true;"},
		{7, 1, pathOf(0.3, 0.5, 6.1, 0.5), 29, "3f4ccccc,3f4ccccc,3f7fffff,3f999999,3f4ccccc,3f7fffff,3e4ccccc,;true;"},
		{1, 7, pathOf(0.5, 0.3, 0.5, 6.1), 29, "3f4ccccc,3f4ccccc,3f7fffff,3f999999,3f4ccccc,3f7fffff,3e4ccccc,;true;"},
		{7, 1, pathOf(3.7, 0.5, 0.7, 0.5), 5, "00000000,3f99999a,3f99999a,3f19999a,00000000,00000000,00000000,;true;"},
		{1, 7, pathOf(0.5, 3.7, 0.5, 0.7), 5, "00000000,3f99999a,3f99999a,3f19999a,00000000,00000000,00000000,;true;"},
		{7, 1, pathOf(3.7, 0.5, 0.7, 0.5), 15, "3e4ccccd,3f800000,3f800000,3f4ccccd,00000000,00000000,00000000,;true;"},
		{1, 7, pathOf(0.5, 3.7, 0.5, 0.7), 15, "3e4ccccd,3f800000,3f800000,3f4ccccd,00000000,00000000,00000000,;true;"},
		{7, 1, pathOf(3.7, 0.5, 0.7, 0.5), 25, "3e75c28f,3f8a3d70,3f75c28f,3f3851eb,00000000,00000000,00000000,;true;"},
		{1, 7, pathOf(0.5, 3.7, 0.5, 0.7), 25, "3e75c28f,3f8a3d70,3f75c28f,3f3851eb,00000000,00000000,00000000,;true;"},
	} {
		isShown(t, show(c.wide, c.deep, c.p, c.parts), show(impl.LengthsOf(c.wide, c.deep, c.p, c.parts)), c.want)
	}
}

func TestLengthsOfEdgePaths(t *testing.T) {
	wants := []string{
		"e445ddd1", "e445ddd1", "c2223c5e", "2f55c846", "a7287395", "9de5acfe", "ebda0440", "ebda0440", "e445ddd1", "3d123ca1",
		"3d123ca1", "3d123ca1", "6e592983", "179e87a7", "7ebba1a6", "5270e77e", "11f58fc5", "11f58fc5", "fdc58e45", "3a11dc45",
		"5e74f095", "466d0815", "c2f839fd", "fdc58e45", "11f58fc5", "1505715d", "fdc58e45", "9905aab6", "603bab79", "5b58e9f8",
		"80197994", "e1b15b41", "77df800d", "240f77ec", "11f58fc5", "43b5422f", "11f58fc5", "f52d395b", "11f58fc5", "b67b75af",
		"31d61c55", "49beebfc", "5e000971", "c2ab00f1", "11f58fc5", "d1af2ce0", "13c229e7",
	}
	for k, p := range edgePaths() {
		var all strings.Builder
		for _, size := range [][2]int64{{4, 4}, {1, 1}, {4, 1}, {1, 4}, {16, 16}} {
			for _, parts := range []int64{1, 2, 3, 4, 8, 100, 255, 256} {
				all.WriteString(show(impl.LengthsOf(size[0], size[1], p, parts)))
				all.WriteString(show(impl.HitsOf(size[0], size[1], paths(p), parts)))
			}
		}
		isShown(t, show(p), digest(all.String()), wants[k])
	}
}

func TestLengthsOfManyPaths(t *testing.T) {
	for _, c := range []struct {
		wide, deep, parts int64
		want              string
	}{
		{1, 1, 1, "c9ed1f05"},
		{6, 6, 1, "251ffc31"},
		{6, 6, 2, "21d15687"},
		{6, 6, 3, "58ec2602"},
		{6, 6, 10, "175d8719"},
		{6, 6, 64, "c47be110"},
		{6, 6, 100, "497757f1"},
		{16, 16, 77, "1cb6c481"},
		{16, 1, 31, "c5e5a2ce"},
		{1, 16, 200, "c668e10f"},
		{4, 9, 255, "7bf8cc0e"},
		{9, 4, 256, "5e2ac519"},
	} {
		var all strings.Builder
		for _, p := range pathsBy(40, uint32(c.parts)) {
			all.WriteString(show(impl.LengthsOf(c.wide, c.deep, p, c.parts)))
		}
		isShown(t, show(c.wide, c.deep, c.parts), digest(all.String()), c.want)
	}
}

func TestLengthsOfNothing(t *testing.T) {
	p := pathOf(0, 0.5, 2, 0.5)
	for _, size := range noSizes() {
		isShown(t, show(size), show(impl.LengthsOf(size[0], size[1], p, 4)), noList)
		isShown(t, show(size), show(impl.HitsOf(size[0], size[1], paths(p), 4)), noHits)
	}
	for _, parts := range noParts() {
		isShown(t, show(parts), show(impl.LengthsOf(2, 1, p, parts)), noList)
		isShown(t, show(parts), show(impl.HitsOf(2, 1, paths(p), parts)), noHits)
	}
	for _, p := range noPathsOfSections() {
		isShown(t, show(p), show(impl.LengthsOf(2, 1, p, 4)), noList)
	}
	for _, list := range noPathLists() {
		isShown(t, show(list), show(impl.HitsOf(2, 1, list, 4)), noHits)
	}
}

func TestHitsOf(t *testing.T) {
	minus, tiny := minusZero(), num(1)
	for _, c := range []struct {
		wide, deep int64
		list       []impl.Path
		parts      int64
		want       string
	}{
		{2, 1, paths(pathOf(0, 0.5, 2, 0.5), pathOf(0, 0.5, 2, 0.5)), 4, "[2 2];true;"},
		{2, 1, paths(pathOf(0, 0.5, 2, 0.5), pathOf(1.5, 0, 1.5, 1)), 4, "[1 2];true;"},
		{2, 1, paths(pathOf(0, 0.5, 2, 0.5)), 1, "[0 1];true;"},
		{2, 1, paths(pathOf(0, 0.5, 2, 0.5)), 256, "[1 1];true;"},
		{1, 1, paths(pathOf(0.5, 0.5, 0.5, 0.5)), 3, "[1];true;"},
		{1, 1, paths(pathOf(1, 0.5, 1, 0.5)), 3, "[0];true;"},
		{2, 2, paths(pathOf(0, 0, 2, 2), pathOf(2, 0, 0, 2), pathOf(0, 0.5, 2, 0.5)), 10, "[2 2 1 1];true;"},
		{2, 2, paths(pathOf(-3, 0, -1, 2), pathOf(3, 0, 5, 2), pathOf(0, -3, 2, -1), pathOf(0, 3, 2, 5)), 10, "[0 0 0 0];true;"},
		{2, 2, paths(pathOf(-3, 0, -1, 2), pathOf(1.5, 1.5, 1.5, 1.5), pathOf(1, 1, 1, 1), pathOf(0, 0, 2, 2)), 10, "[1 0 0 3];true;"},
		{2, 2, paths(pathOf(-tiny, 0, -tiny, 2), pathOf(0, -tiny, 2, -tiny), pathOf(minus, minus, minus, minus), pathOf(-tiny, -tiny, tiny, tiny)), 10, "[2 0 0 0];true;"},
		{3, 2, paths(pathOf(-1, 0.5, 4, 0.5), pathOf(-1, 1.5, 4, 1.5), pathOf(2.5, -5, 2.5, 5)), 30, "[1 1 2 1 1 2];true;"},
		{2, 3, paths(pathOf(-1, 0.5, 4, 0.5), pathOf(-1, 1.5, 4, 1.5), pathOf(1.5, -5, 1.5, 5)), 30, "[1 2 1 2 0 1];true;"},
		{1, 1, paths(pathOf(0, 0, 1e-23, 0), pathOf(0, 0, tiny, tiny), pathOf(0, 0, 1, 1)), 9, "[3];true;"},
		{1, 1, paths(pathOf(0, 0.5, 2, 0.5), pathOf(0, 0.5, 1001, 0.5)), 4, "[];false;"},
		{1, 1, paths(), 4, "[];false;"},
	} {
		isShown(t, show(c.wide, c.deep, c.list, c.parts), show(impl.HitsOf(c.wide, c.deep, c.list, c.parts)), c.want)
	}
	var all strings.Builder
	for count := 1; count <= 32; count++ {
		for _, parts := range []int64{1, 2, 5, 17, 256} {
			all.WriteString(show(impl.HitsOf(int64(count%16+1), 7, pathsBy(count, uint32(count)), parts)))
		}
	}
	isShown(t, "some", digest(all.String()), "dad70d67")
}

// A path counts in a cell if it has a part there, of whatever length.
func TestHitsOfPoints(t *testing.T) {
	for z := range int64(16) {
		for x := range int64(16) {
			for _, by := range []float32{0, 0.5, just(1, -1)} {
				p := pathOf(float32(x)+min(by, 0.99), float32(z), float32(x)+min(by, 0.99), float32(z))
				want := make([]int64, 256)
				want[x+16*z] = 1
				isShown(t, show(p), show(impl.HitsOf(16, 16, paths(p), 9)), show(want, true))
				isShown(t, show(p), show(impl.LengthsOf(16, 16, p, 9)), show(make([]float32, 256), true))
			}
		}
	}
}

// The limits are told by the document, and some numbers reach them.
func TestPartsAndPathsAtTheirLimits(t *testing.T) {
	for _, parts := range []int64{1, 2, 255, 256} {
		_, length := impl.LengthsOf(16, 16, pathOf(-1000, -1000, 1000, 1000), parts)
		for _, count := range []int{1, 2, 31, 32} {
			hits, ok := impl.HitsOf(1, 1, make([]impl.Path, count), parts)
			isShown(t, show(parts, count), show(length, hits, ok), show(true, []int64{int64(count)}, true))
		}
	}
}
