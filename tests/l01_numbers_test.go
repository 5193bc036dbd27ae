package tests

import (
	"math"
	"testing"

	"loop.example/g01231/impl"
)

func TestSameNumber(t *testing.T) {
	list := someNumbers()
	for i, a := range list {
		for k, b := range list {
			want := i == k || a != a && b != b
			if got := impl.SameNumber(a, b); got != want {
				t.Errorf("SameNumber(%s, %s): got %v", word(a), word(b), got)
			}
		}
	}
}

func TestSameComplex(t *testing.T) {
	list := someComplex()
	for _, a := range list {
		for _, b := range list {
			if got := impl.SameComplex(a, b); got != (pair(a) == pair(b)) {
				t.Fatalf("SameComplex(%s, %s): got %v", pair(a), pair(b), got)
			}
		}
	}
}

func TestFinite(t *testing.T) {
	for _, x := range someNumbers() {
		finite := bitsOf(x)&0x7f800000 != 0x7f800000
		if got := impl.IsFinite(x); got != finite {
			t.Errorf("IsFinite(%s): got %v", word(x), got)
		}
		if impl.IsFiniteComplex(complex(x, 1)) != finite || impl.IsFiniteComplex(complex(1, x)) != finite {
			t.Errorf("IsFiniteComplex with %s is wrong", word(x))
		}
	}
}

func TestBitsOf(t *testing.T) {
	for _, b := range []uint32{0, 1, 0x80000000, 0x80000001, 0x3f800000, 0x7f7fffff, 0x7f800000, 0xff800000, 0x00800000} {
		if got := impl.BitsOf(num(b)); got != int64(b) {
			t.Errorf("BitsOf(%08x): got %x", b, got)
		}
	}
	for _, b := range []uint32{nanBits, 0xffc00000, 0x7f800001, 0xff800001, 0x7fffffff, 0xffffffff, 0x7fa12345} {
		if got := impl.BitsOf(num(b)); got != 2143289344 {
			t.Errorf("BitsOf(%08x): got %d", b, got)
		}
	}
}

func TestFromBits(t *testing.T) {
	for _, n := range []int64{0, 1, 0x80000000, 0x007fffff, 0x3f800000, 0x7f800000, 0xff800000, 0xff7fffff} {
		x, ok := impl.FromBits(n)
		if !ok || int64(math.Float32bits(x)) != n {
			t.Errorf("FromBits(%x): got %s, %v", n, word(x), ok)
		}
	}
	for _, n := range []int64{0x7f800001, 0x7fc00000, 0xff800001, 4294967295} {
		if x, ok := impl.FromBits(n); !ok || x == x {
			t.Errorf("FromBits(%x): got %s, %v", n, word(x), ok)
		}
	}
	for _, n := range []int64{-1, 4294967296, math.MinInt64, math.MaxInt64, 4294967296 + 0x3f800000} {
		x, ok := impl.FromBits(n)
		isShown(t, "FromBits of no bits", show(x, ok), "00000000;false;")
	}
}

func TestNarrowNumber(t *testing.T) {
	for _, c := range []struct {
		x    float64
		want uint32
	}{
		{0.5, 0x3f000000}, {0.1, 0x3dcccccd}, {-3, 0xc0400000},
		{0x1.000001p0, 0x3f800000}, {0x1.000003p0, 0x3f800002}, {-0x1.000003p0, 0xbf800002},
		{0x1.0000010000001p0, 0x3f800001}, {0x1.0000030000000p0, 0x3f800002}, {0x1.0000029999999p0, 0x3f800001},
		{0x1.fffffefffffffp127, 0x7f7fffff}, {0x1.ffffffp127, 0x7f800000}, {-0x1.ffffffp127, 0xff800000}, {1e300, 0x7f800000},
		{0x1p-150, 0}, {-0x1p-150, 0x80000000}, {0x1.0000000000001p-150, 1}, {0x1.8p-149, 2}, {0x1.4p-148, 2}, {0x1.cp-148, 4},
		{0x1.fffffcp-127, 0x007fffff}, {0x1.fffffdp-127, 0x007fffff}, {0x1.fffffep-127, 0x00800000}, {5e-324, 0}, {-5e-324, 0x80000000},
		{0, 0}, {math.Copysign(0, -1), 0x80000000}, {math.Inf(1), 0x7f800000}, {math.Inf(-1), 0xff800000},
		{math.NaN(), nanBits}, {math.Float64frombits(0xfff0000000000001), nanBits}, {math.Float64frombits(0x7ff0000000000001), nanBits},
	} {
		isNumber(t, "NarrowNumber", impl.NarrowNumber(c.x), num(c.want))
		isComplex(t, "NarrowComplex", impl.NarrowComplex(complex(c.x, -2)), cnum(c.want, 0xc0000000))
		isComplex(t, "NarrowComplex", impl.NarrowComplex(complex(7, c.x)), cnum(0x40e00000, c.want))
	}
}

func TestSubnormal(t *testing.T) {
	for _, c := range []struct {
		bits, flushed uint32
		small         bool
	}{
		{0, 0, false}, {0x80000000, 0x80000000, false}, {1, 0, true}, {0x80000001, 0x80000000, true},
		{0x007fffff, 0, true}, {0x807fffff, 0x80000000, true}, {0x00800000, 0x00800000, false}, {0x80800000, 0x80800000, false},
		{0x3f800000, 0x3f800000, false}, {0x7f800000, 0x7f800000, false}, {0xff800000, 0xff800000, false},
		{nanBits, nanBits, false}, {0x7f800001, nanBits, false}, {0xffffffff, nanBits, false},
	} {
		if got := impl.IsSubnormal(num(c.bits)); got != c.small {
			t.Errorf("IsSubnormal(%08x): got %v", c.bits, got)
		}
		isNumber(t, "FlushNumber", impl.FlushNumber(num(c.bits)), num(c.flushed))
	}
}

func TestProductsOfSmallIntegersAreExact(t *testing.T) {
	for a := int64(-7); a <= 7; a++ {
		for b := int64(-7); b <= 7; b++ {
			for c := int64(-7); c <= 7; c++ {
				for d := int64(-7); d <= 7; d++ {
					smallProduct(t, a, b, c, d)
				}
			}
		}
	}
	smallProduct(t, 2047, -2048, 2048, 2047)
	smallProduct(t, 4096, 1, -4095, 3)
}

func smallProduct(t *testing.T, a, b, c, d int64) {
	t.Helper()
	got := impl.MulComplex(complex(float32(a), float32(b)), complex(float32(c), float32(d)))
	if real(got) != float32(a*c-b*d) || imag(got) != float32(a*d+b*c) {
		t.Errorf("(%d + %d i) (%d + %d i): got %v", a, b, c, d, got)
	}
}

// The products and quotients were computed by another program, as the document tells.
func TestProductsAndQuotients(t *testing.T) {
	for _, c := range []struct{ x, y, product, quotient string }{
		{"408b44f140fed9f3", "40f3425b7f800000", "ff8000007f800000", "7fc000007fc00000"},
		{"c0908bb100000001", "7f800000c0095dec", "ff8000007f800000", "7fc000007fc00000"},
		{"8000000180000001", "c0b71fdabffebc87", "0000000400000008", "0000000000000000"},
		{"c0f6913c7f800000", "00000000c10e7846", "7f8000007fc00000", "ff8000007fc00000"},
		{"4104844000000001", "4104e7d9404cdc57", "4289986941d416e3", "3f5e3f7dbeab4956"},
		{"3eaaaaabbf800000", "3f80000000000001", "3eaaaaabbf800000", "3eaaaaabbf800000"},
		{"c041b4213fc6782f", "406f3e313f800000", "c14dd53f403140b5", "bf26eb933f16d697"},
		{"beb173ce7f800000", "0000000100000000", "7fc000007f800000", "7fc000007f800000"},
		{"c023fe793f62188c", "c00e6d53bf596522", "40ce7a633e579525", "3f5f7558bf3addc9"},
		{"400e8475c0db71b4", "7f8000003f800000", "7f800000ff800000", "7fc000007fc00000"},
		{"c08f7c2e3fced097", "c018dfa5bf9a6bf6", "414a8e573fc66799", "3f9c99eebfa5ad05"},
		{"c0a7e9df3f800000", "c0385ddb3f500613", "4164daefc0e4a0ef", "3fe3946d3e1e1916"},
		{"c0530be280000000", "407ebf61be955b49", "c15203903f764258", "bf52f374bd775ba3"},
		{"c0f15e39bf800000", "3eaaaaab007fffff", "c020e97cbeaaaaab", "c1b506aac0400000"},
		{"bfb4456f40400000", "7f800000c0a8bbc7", "ff8000007f800000", "7fc000007fc00000"},
		{"3f9390d2c0e00000", "0000000100000001", "0000000880000006", "ff800000ff800000"},
		{"bf800000bf57dcb6", "40cae5c5bf561675", "c0e17673c0905318", "be0d15b2be1ac97f"},
		{"3eaaaaab007fffff", "bf800000c0df2a4d", "beaaaaabc014c6de", "bbdc0ec43d3fd53a"},
		{"3f1250037f800000", "c0b8402e3e8be374", "ff800000ff800000", "7f800000ff800000"},
		{"c01d539dc07c755c", "409b5fe2c06d7b81", "c1d495c6c12080eb", "3d942704bf41d396"},
		{"402c720300000000", "c0e0000040400000", "c196e3c341015582", "bea67fbcbe0eb6a1"},
		{"c0734598404807f9", "c0823f6440fc023d", "c1124809c22aa01b", "3f02949a3e604b38"},
	} {
		x, y := readPair(t, c.x), readPair(t, c.y)
		isShown(t, "product of "+c.x+" and "+c.y, pair(impl.MulComplex(x, y)), c.product)
		isShown(t, "quotient of "+c.x+" and "+c.y, pair(impl.QuotientOf(x, y)), c.quotient)
	}
}

func TestProductsHaveLongParts(t *testing.T) {
	x, y := complex(float32(0x1.000002p0), 1), complex(float32(0x1.000002p0), float32(0x1.000004p0))
	isComplex(t, "what 32-bit products lose", impl.MulComplex(x, y), complex(0x1p-46, 0x1.000004p1))
	great := impl.MulComplex(complex(1e38, 1e38), complex(10, 9.5))
	isComplex(t, "what 32-bit products exceed", great, complex(float32(float64(float32(1e38))*0.5), float32(math.Inf(1))))
}

func TestProductsWithZeros(t *testing.T) {
	minus := num(0x80000000)
	isComplex(t, "0 - 0 and 0 + 0", impl.MulComplex(complex(0, 0), complex(1, 1)), 0)
	isComplex(t, "-0 - 0", impl.MulComplex(complex(minus, 0), complex(1, 1)), cnum(0x80000000, 0))
	isComplex(t, "-0 + -0", impl.MulComplex(complex(minus, minus), complex(1, 1)), cnum(0, 0x80000000))
}

func TestScaleComplex(t *testing.T) {
	isComplex(t, "scale", impl.ScaleComplex(complex(1, -2), 0.5), complex(0.5, -1))
	isComplex(t, "by -0", impl.ScaleComplex(complex(1, -2), num(0x80000000)), cnum(0x80000000, 0))
	isComplex(t, "rounded", impl.ScaleComplex(complex(0.1, 1e30), 1e10), complex(num(0x4e6e6b28), float32(math.Inf(1))))
	isComplex(t, "of infinities", impl.ScaleComplex(cnum(0x7f800000, 0xff800000), 0), cnum(nanBits, nanBits))
	isComplex(t, "a real factor keeps parts apart", impl.ScaleComplex(cnum(0x7f800000, 0), 2), cnum(0x7f800000, 0))
}

func TestConjugateOf(t *testing.T) {
	isComplex(t, "conjugate", impl.ConjugateOf(complex(1, 2)), complex(1, -2))
	isComplex(t, "of +0", impl.ConjugateOf(cnum(0x80000000, 0)), cnum(0x80000000, 0x80000000))
	isComplex(t, "of -0", impl.ConjugateOf(cnum(0, 0x80000000)), cnum(0, 0))
	isComplex(t, "of an infinity", impl.ConjugateOf(cnum(0x7f800000, 0xff800000)), cnum(0x7f800000, 0x7f800000))
	isComplex(t, "of a not-a-number", impl.ConjugateOf(cnum(1, 0xffffffff)), cnum(1, nanBits))
}

func TestPowerAndLong(t *testing.T) {
	inf := float32(math.Inf(1))
	for _, c := range []struct {
		x           complex64
		power, long float32
	}{
		{complex(3, 4), 25, 5}, {complex(-5, 12), 169, 13}, {0, 0, 0}, {cnum(0x80000000, 0x80000000), 0, 0},
		{complex(3e20, 4e20), inf, num(0x61d8d727)}, {complex(1e-30, 0), 0, 1e-30}, {cnum(1, 0), 0, num(1)}, {cnum(0, 0x007fffff), 0, num(0x007fffff)},
		{complex(math.MaxFloat32, 0), inf, math.MaxFloat32}, {complex(math.MaxFloat32, math.MaxFloat32), inf, inf},
		{cnum(0xff800000, 1), inf, inf}, {cnum(0xff800000, nanBits), num(nanBits), num(nanBits)}, {cnum(1, 0x7f800001), num(nanBits), num(nanBits)},
		{complex(4096, 1), 16777216, 4096}, {complex(0x1.000002p0, 0x1p-12), 0x1.000006p0, 0x1.000002p0}, {complex(4095, 4097), 33554434, num(0x45b504f4)},
	} {
		isNumber(t, "PowerOf "+pair(c.x), impl.PowerOf(c.x), c.power)
		isNumber(t, "LongOf "+pair(c.x), impl.LongOf(c.x), c.long)
	}
}

func TestQuotientOf(t *testing.T) {
	isComplex(t, "4 i / 2", impl.QuotientOf(complex(0, 4), 2), complex(0, 2))
	isComplex(t, "5 + 5 i over 3 - i", impl.QuotientOf(complex(5, 5), complex(3, -1)), complex(1, 2))
	isComplex(t, "powers beyond 32 bits", impl.QuotientOf(complex(1e30, 2e30), complex(1e30, 0)), complex(1, num(0x40000000)))
	isComplex(t, "powers below 32 bits", impl.QuotientOf(cnum(2, 4), cnum(2, 0)), complex(1, 2))
	for _, x := range someComplex() {
		for _, zero := range []complex64{0, cnum(0x80000000, 0), cnum(0, 0x80000000), cnum(0x80000000, 0x80000000)} {
			isComplex(t, "by zero", impl.QuotientOf(x, zero), cnum(nanBits, nanBits))
		}
	}
}

func TestRootNumber(t *testing.T) {
	for _, c := range []struct{ x, want uint32 }{
		{0x41100000, 0x40400000}, {0x40000000, 0x3fb504f3}, {0x3dcccccd, 0x3ea1e89b}, {0, 0}, {0x80000000, 0x80000000},
		{0x80000001, nanBits}, {0xbf800000, nanBits}, {0xff800000, nanBits}, {0x7f800000, 0x7f800000}, {nanBits, nanBits},
		{0x7f800001, nanBits}, {0xffffffff, nanBits}, {1, 0x1a3504f3}, {0x007fffff, 0x1fffffff}, {0x7f7fffff, 0x5f7fffff},
	} {
		isNumber(t, "RootNumber", impl.RootNumber(num(c.x)), num(c.want))
	}
}
