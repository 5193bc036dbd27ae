package tests

import (
	"math"
	"testing"

	"loop.example/g01231/impl"
)

func isSum[T float32 | complex64](t *testing.T, what string, got T, ok bool, want T) {
	t.Helper()
	isShown(t, what, show(got, ok), show(want, true))
}

func TestSumNumbers(t *testing.T) {
	minus, inf := num(0x80000000), float32(math.Inf(1))
	for _, c := range []struct {
		list []float32
		want float32
	}{
		{nil, 0}, {[]float32{}, 0}, {[]float32{minus}, 0}, {[]float32{minus, minus}, 0}, {[]float32{1, 2, 3.5}, 6.5},
		{[]float32{1 << 24, 1, 1}, 1 << 24}, {[]float32{1, 1, 1 << 24}, 1<<24 + 2}, {[]float32{1 << 24, 3}, 1<<24 + 4},
		{[]float32{math.MaxFloat32, math.MaxFloat32, -math.MaxFloat32}, inf}, {[]float32{inf, 1, -inf}, num(nanBits)},
		{[]float32{num(1), num(1)}, num(2)}, {[]float32{num(0xffffffff), 1}, num(nanBits)}, {[]float32{1, -1}, 0},
	} {
		got, ok := impl.SumNumbers(c.list)
		isSum(t, "SumNumbers", got, ok, c.want)
	}
}

func TestDotNumbers(t *testing.T) {
	minus, step := num(0x80000000), float32(0x1.000002p0)
	for _, c := range []struct {
		a, b []float32
		want float32
	}{
		{nil, []float32{}, 0}, {[]float32{1, 2}, []float32{3, 4}, 11}, {[]float32{minus}, []float32{1}, 0},
		{[]float32{-0x1.000004p0, step}, []float32{1, step}, 0}, {[]float32{step, -0x1.000004p0}, []float32{step, 1}, 0},
		{[]float32{1 << 24, 1, 1}, []float32{1, 1, 1}, 1 << 24}, {[]float32{1e30, -1e30}, []float32{1e30, 1e30}, num(nanBits)},
		{[]float32{1e-30}, []float32{1e-30}, 0}, {[]float32{0}, []float32{num(0x7f800000)}, num(nanBits)},
		{[]float32{num(3)}, []float32{0.5}, num(2)}, {[]float32{0.1}, []float32{0.1}, num(0x3c23d70b)},
	} {
		got, ok := impl.DotNumbers(c.a, c.b)
		isSum(t, "DotNumbers", got, ok, c.want)
	}
}

func TestSumComplex(t *testing.T) {
	for _, c := range []struct {
		list []complex64
		want complex64
	}{
		{nil, 0}, {[]complex64{1, complex(2, 3)}, complex(3, 3)}, {[]complex64{cnum(0x80000000, 0x80000000)}, 0},
		{[]complex64{complex(1<<24, 1), complex(1, 1), complex(1, 1<<24)}, complex(1<<24, 1<<24+2)},
		{[]complex64{cnum(0x7f800000, 1), cnum(0xff800000, 1)}, cnum(nanBits, 2)},
		{[]complex64{cnum(1, 0x7f800001), 0}, cnum(1, nanBits)},
	} {
		got, ok := impl.SumComplex(c.list)
		isSum(t, "SumComplex", got, ok, c.want)
	}
}

func TestDotComplex(t *testing.T) {
	i := complex64(complex(0, 1))
	fine := complex(float32(0x1.000002p0), 0)
	for _, c := range []struct {
		a, b       []complex64
		plain, con complex64
	}{
		{nil, nil, 0, 0}, {[]complex64{i}, []complex64{i}, -1, 1},
		{[]complex64{complex(1, 2), complex(3, -1)}, []complex64{complex(3, -1), complex(2, 5)}, complex(16, 18), complex(2, 10)},
		{[]complex64{complex(1, 2)}, []complex64{complex(0, 1)}, complex(-2, 1), complex(2, 1)},
		{[]complex64{complex(-0x1.000004p0, 0), fine}, []complex64{1, fine}, 0, 0},
		{[]complex64{complex(1<<24, 0), 1, 1}, []complex64{1, 1, 1}, complex(1<<24, 0), complex(1<<24, 0)},
		{[]complex64{complex(1, 0)}, []complex64{cnum(0x80000000, 0x80000000)}, 0, 0},
		{[]complex64{cnum(0x7f800000, 0)}, []complex64{1}, cnum(0x7f800000, nanBits), cnum(0x7f800000, nanBits)},
	} {
		got, ok := impl.DotComplex(c.a, c.b)
		isSum(t, "DotComplex", got, ok, c.plain)
		got, ok = impl.DotConjugate(c.a, c.b)
		isSum(t, "DotConjugate", got, ok, c.con)
	}
}

func TestPowersOf(t *testing.T) {
	small := complex(float32(0x1p-13), float32(0x1p-13))
	for _, c := range []struct {
		list []complex64
		want float32
	}{
		{nil, 0}, {[]complex64{complex(3, 4), 1}, 26}, {[]complex64{4096, 1, 1}, 1<<24 + 2}, {[]complex64{1, small, small}, 0x1.000001p0},
		{[]complex64{complex(0x1.000002p0, 0), complex(0, 0x1p-12)}, 0x1.000006p0},
		{[]complex64{1, small, small, small}, 0x1.000002p0}, {[]complex64{complex(1e20, 0)}, float32(math.Inf(1))},
		{[]complex64{cnum(0x80000000, 0x80000000)}, 0}, {[]complex64{cnum(0xff800000, 0), 1}, float32(math.Inf(1))},
		{[]complex64{1, cnum(0, 0x7f800001)}, num(nanBits)},
	} {
		got, ok := impl.PowersOf(c.list)
		isSum(t, "PowersOf", got, ok, c.want)
	}
}

// sumsOfOnes shows all sums of so many numbers 1.
func sumsOfOnes(count int) string {
	list, clist := ones[float32](count), ones[complex64](count)
	sum, one := impl.SumNumbers(list)
	dot, two := impl.DotNumbers(list, list)
	csum, three := impl.SumComplex(clist)
	cdot, four := impl.DotComplex(clist, clist)
	con, five := impl.DotConjugate(clist, clist)
	powers, six := impl.PowersOf(clist)
	return show(sum, one, dot, two, powers, six, csum, three, cdot, four, con, five)
}

func TestSumsOfMostNumbers(t *testing.T) {
	n, c := float32(256), complex64(256)
	isShown(t, "256 numbers", sumsOfOnes(256), show(n, true, n, true, n, true, c, true, c, true, c, true))
	n, c = 0, 0
	isShown(t, "257 numbers", sumsOfOnes(257), show(n, false, n, false, n, false, c, false, c, false, c, false))
}

func TestDotsOfDifferentLengths(t *testing.T) {
	for _, c := range [][2]int{{0, 1}, {1, 0}, {2, 3}, {3, 2}, {256, 257}, {257, 256}} {
		dot, one := impl.DotNumbers(ones[float32](c[0]), ones[float32](c[1]))
		cdot, two := impl.DotComplex(ones[complex64](c[0]), ones[complex64](c[1]))
		con, three := impl.DotConjugate(ones[complex64](c[0]), ones[complex64](c[1]))
		got := show(dot, one, cdot, two, con, three)
		isShown(t, "different lengths", got, show(float32(0), false, complex64(0), false, complex64(0), false))
	}
}
