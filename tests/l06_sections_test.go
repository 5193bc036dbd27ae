package tests

import (
	"math"
	"slices"
	"strings"
	"testing"

	"loop.example/g01231/impl"
)

func TestValidSection(t *testing.T) {
	for wide := int64(-2); wide <= 19; wide++ {
		for deep := int64(-2); deep <= 19; deep++ {
			good := 1 <= wide && wide <= 16 && 1 <= deep && deep <= 16
			for _, more := range []int64{-1, 0, 1, wide, -wide, 256} {
				count := max(0, wide*deep+more)
				s := sectionOf(wide, deep, make([]float32, count)...)
				isShown(t, show(wide, deep, count), show(impl.ValidSection(s)), show(good && count == wide*deep))
			}
		}
	}
	for _, s := range someSections() {
		isShown(t, show(s), show(impl.ValidSection(s)), "true;")
	}
	for _, s := range noSections() {
		isShown(t, show(s), show(impl.ValidSection(s)), "false;")
	}
}

func TestSameSection(t *testing.T) {
	all := append(someSections(), sectionOf(2, 3, 1, 2, 3, 4, 5, 6), sectionOf(3, 2, 1, 2, 3, 4, 5, 6), sectionOf(2, 2, 1, 2, 3, 4, 5, 6),
		sectionOf(2, 3, 1, 2, 3, 4, 5), sectionOf(2, 3, 1, 2, 3, 4, 5, 6, 0), sectionOf(6, 1, 1, 2, 3, 4, 5, 6), sectionOf(1, 6, 1, 2, 3, 4, 5, 6),
		impl.Section{}, impl.Section{Wide: 1}, impl.Section{Deep: 1}, impl.Section{Wide: math.MaxInt64, Deep: math.MinInt64},
		sectionOf(0, 0, 0), sectionOf(0, 0, minusZero()), sectionOf(0, 0, notNumber()), sectionOf(1, 1, 0), sectionOf(1, 1, minusZero()))
	for i, a := range all {
		for k, b := range all {
			b.Values = slices.Clone(b.Values)
			isShown(t, show(a, b), show(impl.SameSection(a, b)), show(i == k))
		}
	}
	for _, x := range someNumbers() {
		for _, y := range someNumbers() {
			a, b := sectionOf(3, 1, 1, x, 2), sectionOf(3, 1, 1, y, 2)
			isShown(t, show(x, y), show(impl.SameSection(a, b)), show(bitsOf(x) == bitsOf(y)))
		}
	}
	s := sectionBy(16, 16, 1)
	for i := range s.Values {
		other := sectionOf(16, 16, withNumber(s.Values, i, 7)...)
		isShown(t, show(i), show(impl.SameSection(s, other), impl.SameSection(other, s)), "false;false;")
	}
}

func TestFlatSection(t *testing.T) {
	for wide := int64(1); wide <= 16; wide++ {
		for deep := int64(1); deep <= 16; deep++ {
			isShown(t, show(wide, deep), show(impl.FlatSection(wide, deep, 2.5)), show(sectionOf(wide, deep, filled(int(wide*deep), 2.5)...), true))
		}
	}
	for _, x := range someNumbers() {
		isShown(t, show(x), show(impl.FlatSection(2, 3, x)), show(sectionOf(2, 3, x, x, x, x, x, x), true))
	}
	for _, size := range noSizes() {
		isShown(t, show(size), show(impl.FlatSection(size[0], size[1], 1)), noSection)
	}
}

func TestPutValue(t *testing.T) {
	for _, s := range someSections() {
		for z := int64(-2); z <= s.Deep+1; z++ {
			for x := int64(-2); x <= s.Wide+1; x++ {
				what := show(s.Wide, s.Deep, x, z)
				if x < 0 || x >= s.Wide || z < 0 || z >= s.Deep {
					isShown(t, what, show(impl.PutValue(s, x, z, 7)), noSection)
					continue
				}
				want := sectionOf(s.Wide, s.Deep, withNumber(s.Values, int(x+s.Wide*z), 7)...)
				isShown(t, what, show(impl.PutValue(s, x, z, 7)), show(want, true))
			}
		}
	}
	for _, x := range someNumbers() {
		isShown(t, show(x), show(impl.PutValue(sectionOf(2, 2, 1, 2, 3, 4), 1, 0, x)), show(sectionOf(2, 2, 1, x, 3, 4), true))
	}
	for _, n := range []int64{16, -16, 256, -256, 1 << 32, 1 << 60, math.MaxInt64, math.MinInt64} {
		isShown(t, show(n), show(impl.PutValue(sectionBy(16, 16, 1), n, 0, 7))+show(impl.PutValue(sectionBy(16, 16, 1), 0, n, 7)), noSection+noSection)
		// An index that is one again makes no cell of what is none.
		isShown(t, show(n), show(impl.PutValue(sectionBy(16, 16, 1), -16*n, n, 7)), noSection)
	}
}

func TestAddSections(t *testing.T) {
	minus, inf, nan, high := minusZero(), infinite(), notNumber(), float32(math.MaxFloat32)
	for _, c := range []struct {
		a, b impl.Section
		want string
	}{
		{sectionOf(2, 1, 1, 2), sectionOf(2, 1, 3, -4), "2x1:40800000,c0000000,;true;"},
		{sectionOf(1, 1, 0.1), sectionOf(1, 1, 0.7), "1x1:3f4ccccd,;true;"},
		{sectionOf(2, 2, 0, minus, 0, minus), sectionOf(2, 2, 0, 0, minus, minus), "2x2:00000000,00000000,00000000,80000000,;true;"},
		{sectionOf(2, 2, inf, inf, -inf, nan), sectionOf(2, 2, 1, -inf, -inf, 1), "2x2:7f800000,7fc00000,ff800000,7fc00000,;true;"},
		{sectionOf(3, 1, high, -high, high), sectionOf(3, 1, high, -high, -high), "3x1:7f800000,ff800000,00000000,;true;"},
		{sectionOf(1, 3, num(1), -num(1), num(5)), sectionOf(1, 3, num(1), num(1), -num(7)), "1x3:00000002,00000000,80000002,;true;"},
		{sectionOf(1, 3, 16777216, 16777216, 16777216), sectionOf(1, 3, 1, 2, 3), "1x3:4b800000,4b800001,4b800002,;true;"},
		{sectionOf(2, 1, 1, 2), sectionOf(1, 2, 1, 2), "0x0:;false;"},
		{sectionOf(2, 1, 1, 2), sectionOf(2, 1, 1, 2, 3), "0x0:;false;"},
	} {
		isShown(t, show(c.a, c.b), show(impl.AddSections(c.a, c.b)), c.want)
	}
	var all strings.Builder
	for _, s := range someSections() {
		all.WriteString(show(impl.AddSections(s, sectionBy(s.Wide, s.Deep, 99))))
		all.WriteString(show(impl.AddSections(s, s)))
	}
	isShown(t, "some", digest(all.String()), "d21c2f36")
}

func TestScaleSection(t *testing.T) {
	minus, inf, nan, high := minusZero(), infinite(), notNumber(), float32(math.MaxFloat32)
	for _, c := range []struct {
		s    impl.Section
		by   float32
		want string
	}{
		{sectionOf(2, 1, 1, -2), 2, "2x1:40000000,c0800000,;true;"},
		{sectionOf(2, 1, 1, -2), 0, "2x1:00000000,80000000,;true;"},
		{sectionOf(2, 1, 1, -2), minus, "2x1:80000000,00000000,;true;"},
		{sectionOf(2, 2, 0, minus, 0.1, 0.3), -1, "2x2:80000000,00000000,bdcccccd,be99999a,;true;"},
		{sectionOf(2, 2, 0, minus, 0.1, 0.3), 0.1, "2x2:00000000,80000000,3c23d70b,3cf5c290,;true;"},
		{sectionOf(2, 2, inf, nan, 0, -inf), 0, "2x2:7fc00000,7fc00000,00000000,7fc00000,;true;"},
		{sectionOf(2, 2, inf, nan, 0, -inf), -inf, "2x2:ff800000,7fc00000,7fc00000,7f800000,;true;"},
		{sectionOf(2, 2, inf, nan, 0, 1), nan, "2x2:7fc00000,7fc00000,7fc00000,7fc00000,;true;"},
		{sectionOf(1, 3, num(1), num(3), num(5)), 0.5, "1x3:00000000,00000002,00000002,;true;"},
		{sectionOf(1, 3, high, -high, 1), 2, "1x3:7f800000,ff800000,40000000,;true;"},
		{sectionOf(1, 3, high, -high, 1), num(1), "1x3:34ffffff,b4ffffff,00000001,;true;"},
		{sectionOf(3, 1, 1e-30, 1e30, 3), 1e20, "3x1:2edbe6ff,7f800000,61821ab1,;true;"},
	} {
		isShown(t, show(c.s, c.by), show(impl.ScaleSection(c.s, c.by)), c.want)
	}
	var all strings.Builder
	for _, s := range someSections() {
		for _, x := range someNumbers() {
			all.WriteString(show(impl.ScaleSection(s, x)))
		}
	}
	isShown(t, "some", digest(all.String()), "f99a6fa8")
}

func TestSectionDot(t *testing.T) {
	minus, inf, nan, high := minusZero(), infinite(), notNumber(), float32(math.MaxFloat32)
	for _, c := range []struct {
		a, b impl.Section
		want string
	}{
		{sectionOf(2, 1, 1, 2), sectionOf(2, 1, 3, -4), "c0a00000;true;"},
		{sectionOf(1, 1, minus), sectionOf(1, 1, 1), "00000000;true;"},
		{sectionOf(1, 1, minus), sectionOf(1, 1, 0), "00000000;true;"},
		{sectionOf(3, 1, 1e8, 1, -1e8), sectionOf(3, 1, 1, 1, 1), "3f800000;true;"},
		{sectionOf(3, 1, 1e20, 1, -1e20), sectionOf(3, 1, 1e20, 1, 1e20), "00000000;true;"},
		{sectionOf(1, 3, 1, 1e20, -1e20), sectionOf(1, 3, 1, 1e20, 1e20), "00000000;true;"},
		{sectionOf(2, 1, 1e20, 1e20), sectionOf(2, 1, 1e20, -1e20), "00000000;true;"},
		{sectionOf(2, 1, high, high), sectionOf(2, 1, high, -high), "00000000;true;"},
		{sectionOf(1, 1, 1e20), sectionOf(1, 1, 1e20), "7f800000;true;"},
		{sectionOf(1, 1, 1e20), sectionOf(1, 1, -1e20), "ff800000;true;"},
		{sectionOf(1, 1, high), sectionOf(1, 1, 1), "7f7fffff;true;"},
		{sectionOf(2, 1, high, high), sectionOf(2, 1, 1, num(1)), "7f7fffff;true;"},
		{sectionOf(2, 1, high, 1e31), sectionOf(2, 1, 1, 1), "7f7fffff;true;"},
		{sectionOf(2, 1, high, 1.1e31), sectionOf(2, 1, 1, 1), "7f800000;true;"},
		{sectionOf(1, 1, 1e-23), sectionOf(1, 1, 1e-23), "00000000;true;"},
		{sectionOf(1, 1, 1e-23), sectionOf(1, 1, -1e-23), "80000000;true;"},
		{sectionOf(1, 1, 1e-22), sectionOf(1, 1, 1e-22), "00000007;true;"},
		{sectionOf(16, 1, 1e-23, 1e-23, 1e-23, 1e-23, 1e-23, 1e-23, 1e-23, 1e-23, 1e-23, 1e-23, 1e-23, 1e-23, 1e-23, 1e-23, 1e-23, 1e-23), sectionOf(16, 1, filled(16, 1e-23)...), "00000001;true;"},
		{sectionOf(2, 1, 4097, 1), sectionOf(2, 1, 4097, 0), "4b801000;true;"},
		{sectionOf(3, 1, 4097, 4096, 1), sectionOf(3, 1, 4097, -4096, -8193), "00000000;true;"},
		{sectionOf(2, 1, inf, 1), sectionOf(2, 1, 0, 1), "7fc00000;true;"},
		{sectionOf(2, 1, inf, 1), sectionOf(2, 1, 1, 1), "7f800000;true;"},
		{sectionOf(2, 1, inf, inf), sectionOf(2, 1, 1, -1), "7fc00000;true;"},
		{sectionOf(2, 1, nan, 1), sectionOf(2, 1, 1, 1), "7fc00000;true;"},
		{sectionOf(1, 2, 1, 2), sectionOf(2, 1, 1, 2), "00000000;false;"},
		{sectionOf(1, 2, 1, 2), sectionOf(1, 2, 1), "00000000;false;"},
	} {
		isShown(t, show(c.a, c.b), show(impl.SectionDot(c.a, c.b)), c.want)
		isShown(t, show(c.b, c.a), show(impl.SectionDot(c.b, c.a)), c.want)
	}
	var all strings.Builder
	for _, s := range someSections() {
		for seed := range uint32(5) {
			all.WriteString(show(impl.SectionDot(s, sectionBy(s.Wide, s.Deep, seed))))
		}
		all.WriteString(show(impl.SectionDot(s, s)))
	}
	isShown(t, "some", digest(all.String()), "6f45fd1b")
}

// Neither sections of other sizes nor those of other sides with as many cells are
// of the same size.
func TestSectionsOfDifferentSizes(t *testing.T) {
	for wide := int64(1); wide <= 16; wide++ {
		for deep := int64(1); deep <= 16; deep++ {
			for _, other := range [][2]int64{{wide, deep}, {deep, wide}, {wide, deep + 1}, {wide + 1, deep}, {1, wide * deep}, {wide * deep, 1}, {4, 4}} {
				a, b := sectionBy(wide, deep, 1), sectionBy(other[0], other[1], 2)
				want := other == [2]int64{wide, deep}
				_, sum := impl.AddSections(a, b)
				_, dot := impl.SectionDot(a, b)
				isShown(t, show(wide, deep, other), show(sum, dot), show(want, want))
			}
		}
	}
}

func TestStrongCell(t *testing.T) {
	minus, inf, nan, high := minusZero(), infinite(), notNumber(), float32(math.MaxFloat32)
	for _, c := range []struct {
		s    impl.Section
		want string
	}{
		{sectionOf(2, 2, 1, -4, 2, 0), "1;0;c0800000;true;"},
		{sectionOf(2, 2, 1, -4, 4, 0), "1;0;c0800000;true;"},
		{sectionOf(2, 2, 1, 4, -4, 4), "1;0;40800000;true;"},
		{sectionOf(2, 2, -4, 4, -4, 4), "0;0;c0800000;true;"},
		{sectionOf(2, 2, 4, -4, 4, -4), "0;0;40800000;true;"},
		{sectionOf(1, 1, 0), "0;0;00000000;true;"},
		{sectionOf(1, 1, minus), "0;0;80000000;true;"},
		{sectionOf(2, 2, 0, minus, 0, 0), "0;0;00000000;true;"},
		{sectionOf(2, 2, minus, 0, 0, 0), "0;0;80000000;true;"},
		{sectionOf(1, 1, nan), "0;0;00000000;false;"},
		{sectionOf(2, 2, nan, nan, nan, nan), "0;0;00000000;false;"},
		{sectionOf(2, 2, nan, nan, minus, nan), "0;1;80000000;true;"},
		{sectionOf(2, 2, nan, minus, num(1), nan), "0;1;00000001;true;"},
		{sectionOf(2, 2, nan, -num(1), num(1), nan), "1;0;80000001;true;"},
		{sectionOf(2, 2, nan, 1, nan, -2), "1;1;c0000000;true;"},
		{sectionOf(2, 2, nan, -inf, inf, high), "1;0;ff800000;true;"},
		{sectionOf(2, 2, high, -high, inf, -inf), "0;1;7f800000;true;"},
		{sectionOf(3, 2, high, -high, 1, nan, 2, 0), "0;0;7f7fffff;true;"},
		{sectionOf(3, 2, 1, 2, 3, 4, 5, 6), "2;1;40c00000;true;"},
		{sectionOf(2, 3, 1, 2, 3, 4, 5, 6), "1;2;40c00000;true;"},
		{sectionOf(3, 2, 6, 5, 4, 3, 2, 1), "0;0;40c00000;true;"},
		{sectionOf(3, 2, 1, 2, 7, 7, 7, 7), "2;0;40e00000;true;"},
		{sectionOf(6, 1, 1, 2, 3, 7, -7, 7), "3;0;40e00000;true;"},
		{sectionOf(1, 6, 1, 2, 3, 7, -7, 7), "0;3;40e00000;true;"},
		{sectionOf(2, 2, 1, -1.0000001, 1.0000001, 1), "1;0;bf800001;true;"},
		{sectionOf(2, 2, 1, 2, 3), "0;0;00000000;false;"},
		{sectionOf(0, 0), "0;0;00000000;false;"},
		{sectionOf(3, 1, inf, nan, -inf), "0;0;7f800000;true;"},
		{sectionOf(2, 1, num(1), num(2)), "1;0;00000002;true;"},
	} {
		isShown(t, show(c.s), show(impl.StrongCell(c.s)), c.want)
	}
	var all strings.Builder
	for _, s := range someSections() {
		all.WriteString(show(impl.StrongCell(s)))
	}
	isShown(t, "some", digest(all.String()), "48ca0642")
}

func TestStrongCellsEverywhere(t *testing.T) {
	for _, size := range [][2]int64{{1, 1}, {16, 1}, {1, 16}, {5, 3}, {3, 5}, {16, 16}} {
		for cell := range size[0] * size[1] {
			for _, value := range []float32{1, -1, num(1), -num(1), infinite(), -infinite()} {
				s := pulseSection(size[0], size[1], cell)
				s.Values[cell] = value
				isShown(t, show(size, cell, value), show(impl.StrongCell(s)), show(cell%size[0], cell/size[0], value, true))
				// All that are left out lie around it.
				s = sectionOf(size[0], size[1], filled(int(size[0]*size[1]), notNumber())...)
				s.Values[cell] = value
				isShown(t, show(size, cell, value), show(impl.StrongCell(s)), show(cell%size[0], cell/size[0], value, true))
			}
		}
	}
}

// Each function fails for sections that are not valid.
func TestFunctionsRequireSections(t *testing.T) {
	one, p := sectionOf(1, 1, 1), pathOf(0, 0.5, 1, 0.5)
	for _, s := range noSections() {
		isShown(t, show(s), show(impl.PutValue(s, 0, 0, 1)), noSection)
		isShown(t, show(s), show(impl.AddSections(s, s))+show(impl.AddSections(s, one))+show(impl.AddSections(one, s)), noSection+noSection+noSection)
		isShown(t, show(s), show(impl.ScaleSection(s, 1)), noSection)
		isShown(t, show(s), show(impl.SectionDot(s, s))+show(impl.SectionDot(s, one))+show(impl.SectionDot(one, s)), noNumber+noNumber+noNumber)
		isShown(t, show(s), show(impl.SpreadSection(s, 1))+show(impl.GatherSection(s, 1)), noSection+noSection)
		isShown(t, show(s), show(impl.FitSection(s, 1, 0))+show(impl.FitSection(s, 1, 1)), noFit+noFit)
		isShown(t, show(s), show(impl.EdgeSection(s))+show(impl.SmoothSection(s, 0)), noSection+noSection)
		isShown(t, show(s), show(impl.StrongCell(s)), noCell)
		isShown(t, show(s), show(impl.TimeAlong(s, p, 1))+show(impl.TimesAlong(s, paths(p), 1)), noNumber+noList)
		isShown(t, show(s), show(impl.PullPath(s, p, 1, 1, 1)), noSection)
		isShown(t, show(s), show(impl.PullPaths(s, paths(p), nums(1), 1, 1, 0))+show(impl.PullPaths(s, paths(p), nums(1), 1, 1, 1)), noSection+noSection)
		isShown(t, show(s), show(impl.OffTimes(s, paths(p), nums(1), 1)), noNumber)
	}
}
