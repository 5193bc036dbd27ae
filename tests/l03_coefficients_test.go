package tests

import (
	"math"
	"strings"
	"testing"

	"loop.example/g01231/impl"
)

// noCoefficients are numbers that are none of a coefficient.
func noCoefficients() []float32 {
	return []float32{1, -1, just(1, 1), -just(1, 1), 2, -1e30, infinite(), -infinite(), notNumber(), num(0xffffffff)}
}

// coefficientsOfNone are lists that are no coefficients.
func coefficientsOfNone() [][]float32 {
	lists := [][]float32{nil, {}, make([]float32, 25), filled(25, 0.5), make([]float32, 1000)}
	for _, x := range noCoefficients() {
		lists = append(lists, []float32{x}, []float32{x, 0.5}, []float32{0.5, x}, withNumber(make([]float32, 24), 23, x))
	}
	return lists
}

func TestAreCoefficients(t *testing.T) {
	for count := range 30 {
		want := show(1 <= count && count <= 24)
		isShown(t, "zeros", show(impl.AreCoefficients(make([]float32, count))), want)
		isShown(t, "nearly 1", show(impl.AreCoefficients(filled(count, just(1, -1)))), want)
		isShown(t, "nearly -1", show(impl.AreCoefficients(filled(count, -just(1, -1)))), want)
	}
	isShown(t, "small ones", show(impl.AreCoefficients([]float32{minusZero(), num(1), num(0x80000001)})), "true;")
	for _, r := range someCoefficients() {
		isShown(t, "some", show(impl.AreCoefficients(r)), "true;")
	}
	for _, r := range coefficientsOfNone() {
		isShown(t, show(r), show(impl.AreCoefficients(r)), "false;")
	}
}

func TestCoefficientsOf(t *testing.T) {
	greatest, least := float32(math.MaxFloat32), num(1)
	for _, c := range []struct {
		hardness []float32
		want     string
	}{
		{[]float32{1, 3}, "3f000000,;true;"}, {[]float32{3, 1}, "bf000000,;true;"}, {[]float32{2, 2, 2}, "00000000,00000000,;true;"},
		{[]float32{0.1, 0.7, 0.3, 1.9}, "3f3fffff,becccccc,3f3a2e8b,;true;"}, {[]float32{1, 1 << 24}, "3f7fffff,;true;"},
		{[]float32{1 << 24, 1}, "bf7fffff,;true;"}, {[]float32{least, least}, "00000000,;true;"}, {[]float32{least, 2 * least}, "3eaaaaab,;true;"},
		{[]float32{greatest, greatest}, "00000000,;true;"}, {[]float32{2e38, 3e38}, "00000000,;true;"},
		{[]float32{3e38, 2e38}, "80000000,;true;"}, {[]float32{1e-38, 1.1e-38}, "3d430c34,;true;"},
		{[]float32{1, 1 << 25}, noList}, {[]float32{1 << 25, 1}, noList}, {[]float32{1, greatest}, noList}, {[]float32{least, 1}, noList},
		{[]float32{1, 2, 1e30}, noList}, {[]float32{1e30, 2, 1}, noList},
	} {
		isShown(t, show(c.hardness), show(impl.CoefficientsOf(c.hardness)), c.want)
	}
	isShown(t, "most", show(impl.CoefficientsOf(filled(25, 7))), show(make([]float32, 24), true))
	var all strings.Builder
	for count := 2; count <= 25; count++ {
		hardness := wavy(count, uint32(count))
		for i, x := range hardness {
			hardness[i] = x + 1.7
		}
		all.WriteString(show(impl.CoefficientsOf(hardness)))
	}
	isShown(t, "some", digest(all.String()), "f4eaf59e")
}

func TestHardnessThatIsNone(t *testing.T) {
	for _, list := range [][]float32{nil, {}, {1}, ones[float32](26), ones[float32](1000)} {
		isShown(t, show(list), show(impl.CoefficientsOf(list)), noList)
	}
	for _, x := range []float32{0, minusZero(), -1, -3, num(0x80000001), infinite(), -infinite(), notNumber()} {
		for _, list := range [][]float32{{x, 1}, {1, x}, {x, x}, {1, x, 1}, withNumber(ones[float32](25), 24, x), withNumber(ones[float32](25), 0, x)} {
			isShown(t, show(list), show(impl.CoefficientsOf(list)), noList)
		}
		isShown(t, "first", show(impl.HardnessOf(x, []float32{0.5})), noList)
	}
}

func TestHardnessOf(t *testing.T) {
	high, low := just(1, -1), -just(1, -1)
	for _, c := range []struct {
		first float32
		r     []float32
		want  string
	}{
		{1, []float32{0.5}, "3f800000,40400000,;true;"}, {3, []float32{-0.5}, "40400000,3f800000,;true;"}, {2.5, []float32{0, minusZero()}, "40200000,40200000,40200000,;true;"},
		{0.7, []float32{0.1, -0.3, 0.9, 0.01}, "3f333333,3f5b05b0,3eebdebe,410c0c3f,410ee089,;true;"}, {1, []float32{high}, "3f800000,4c000000,;true;"},
		{1, []float32{low}, "3f800000,33000000,;true;"}, {1, []float32{high, low, low, high}, "3f800000,4c000000,3f800000,33000000,3f800000,;true;"},
		{math.MaxFloat32, []float32{0}, "7f7fffff,7f7fffff,;true;"}, {math.MaxFloat32, []float32{-0.5}, "7f7fffff,7eaaaaaa,;true;"},
		{num(2), []float32{-0.5}, "00000002,00000001,;true;"},
		{1e31, []float32{high, low}, "72fc6f7c,7f7c6f7c,72fc6f7c,;true;"}, {num(1), []float32{0, 0.5}, "00000001,00000001,00000004,;true;"}, {1e38, []float32{0.5}, "7e967699,7f61b1e6,;true;"},
		{math.MaxFloat32, []float32{num(0x33800000)}, ";false;"},
		// One of these overflows, or becomes 0, where its product with 1 plus r does, or behind it.
		{1.2e38, []float32{0.5}, noList}, {2e38, []float32{0.8}, noList}, {math.MaxFloat32, []float32{0.1, -0.5}, noList},
		{num(1), []float32{-0.5}, noList}, {num(1), []float32{low, high}, noList}, {2e31, []float32{high, low}, noList},
		{1, filled(6, high), noList}, {1, filled(24, low), noList}, {1, []float32{low, low, low, low, low, low, low, high}, noList},
	} {
		isShown(t, show(c.first, c.r), show(impl.HardnessOf(c.first, c.r)), c.want)
	}
	var all strings.Builder
	for _, r := range someCoefficients() {
		all.WriteString(show(impl.HardnessOf(1.3, r)))
	}
	isShown(t, "some", digest(all.String()), "43c00998")
	isShown(t, "most", show(impl.HardnessOf(7, make([]float32, 24))), show(filled(25, 7), true))
	for _, r := range coefficientsOfNone() {
		isShown(t, show(r), show(impl.HardnessOf(1, r)), noList)
	}
}

func TestPrimariesOf(t *testing.T) {
	high := just(1, -1)
	for _, c := range []struct {
		r     []float32
		count int64
		want  string
	}{
		{[]float32{0.5, 0.5}, 2, "3f000000,3ec00000,;true;"}, {[]float32{0.5, 0.5}, 3, "3f000000,3ec00000,00000000,;true;"},
		{[]float32{0.5, 0.5}, 1, "3f000000,;true;"}, {[]float32{0.3, -0.7, 0.1, 0.9}, 6, "3e99999a,bf23126e,3d3e1869,3ed3b7fc,00000000,00000000,;true;"},
		{[]float32{0, minusZero(), 0.5, minusZero()}, 4, "00000000,80000000,3f000000,80000000,;true;"}, {[]float32{high, high, -high}, 3, "3f7fffff,33ffffff,a87fffff,;true;"},
		{[]float32{num(1), num(0x80000001)}, 2, "00000001,80000001,;true;"},
	} {
		isShown(t, show(c.r), show(impl.PrimariesOf(c.r, c.count)), c.want)
	}
	var all strings.Builder
	for _, r := range someCoefficients() {
		for _, count := range []int64{1, 2, 12, 23, 24, 25, 128} {
			all.WriteString(show(impl.PrimariesOf(r, count)))
		}
	}
	isShown(t, "some", digest(all.String()), "6d072f07")
	isShown(t, "nothing back", show(impl.PrimariesOf(make([]float32, 24), 128)), show(make([]float32, 128), true))
}

func noCounts() []int64 {
	return []int64{0, -1, 129, math.MaxInt64, math.MinInt64}
}

func TestPrimariesThatAreNone(t *testing.T) {
	for _, count := range noCounts() {
		isShown(t, show(count), show(impl.PrimariesOf([]float32{0.5}, count)), noList)
	}
	for _, r := range coefficientsOfNone() {
		for _, count := range []int64{1, 24, 128} {
			isShown(t, show(r), show(impl.PrimariesOf(r, count)), noList)
		}
	}
}
