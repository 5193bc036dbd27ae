package tests

import (
	"math"
	"testing"

	"loop.example/g01231/impl"
)

// The tables of this file were computed by another program, as the document
// tells. Many of their arguments are neighbours between which the result is
// rounded another way, so that each operation counts.

func TestPhasorOf(t *testing.T) {
	for _, c := range []struct {
		turns  uint64
		re, im uint32
	}{
		{0x3fb1931a7e7bcee8, 0x3f688d26, 0x3ed6106b},
		{0x3fb1931a7e7bcee9, 0x3f688d26, 0x3ed6106c},
		{0x3fb5edbb7870a9d7, 0x3f5bcf06, 0x3f0339bc},
		{0x3fb5edbb7870a9d8, 0x3f5bcf06, 0x3f0339bd},
		{0x3fc411465f73846e, 0x3f0d8527, 0x3f55537f},
		{0x3fc411465f73846f, 0x3f0d8527, 0x3f555380},
		{0x3fb219983b3069f8, 0x3f6726e8, 0x3edc0b15},
		{0x3fb219983b3069f9, 0x3f6726e8, 0x3edc0b16},
		{0x3fb3cae4c37735f6, 0x3f626223, 0x3eef0d8f},
		{0x3fb3cae4c37735f7, 0x3f626223, 0x3eef0d90},
		{0x3fb7177cb3a8e790, 0x3f57f93b, 0x3f097231},
		{0x3fb7177cb3a8e791, 0x3f57f93b, 0x3f097232},
		{0x3f9de922ee62e775, 0x3f7bb35e, 0x3e3ae192},
		{0x3f9de922ee62e776, 0x3f7bb35e, 0x3e3ae193},
		{0x3fc04f9f6138f4b2, 0x3f323c12, 0x3f37c307},
		{0x3fc04f9f6138f4b3, 0x3f323c12, 0x3f37c308},
		{0x3f90c9c37681e987, 0x3f7ea499, 0x3dd297d3},
		{0x3f90c9c37681e988, 0x3f7ea499, 0x3dd297d4},
		{0x3fa7b8488dc2ab42, 0x3f753b13, 0x3e92f0c3},
		{0x3fa7b8488dc2ab43, 0x3f753b13, 0x3e92f0c4},
		{0x3fc765130b437528, 0x3ed1e5bd, 0x3f697fbd},
		{0x3fc8565124001393, 0x3ebc140f, 0x3f6e1a27},
		{0x3fc90b08514a28f8, 0x3eab77a9, 0x3f71379a},
		{0x3fc8d2bab1b2e5e1, 0x3eb0aa6b, 0x3f70470e},
		{0x3fb999999999999a, 0x3f4f1bbd, 0x3f167918},
		{0x3fd5555555555555, 0xbf000000, 0x3f5db3d7},
		{0xbfd5555555555555, 0xbf000000, 0xbf5db3d7},
		{0x3fe6666666666666, 0xbe9e377a, 0xbf737871},
		{0xbfe6666666666666, 0xbe9e377a, 0x3f737871},
		{0x4007333333333333, 0x3f4f1bbd, 0xbf167918},
		{0xc0314ccccccccccd, 0xbe9e377a, 0xbf737871},
		{0x41cdcd65000fbe77, 0x3f37479b, 0x3f32bafa},
		{0xc26d1a94a20018a4, 0x3e007745, 0x3f7dfa38},
		{0x4310000000000003, 0x00000000, 0xbf800000},
		{0xc310000000000003, 0x00000000, 0x3f800000},
		{0x3fc0000000000000, 0x3f3504f3, 0x3f3504f3},
		{0x3fd8000000000000, 0xbf3504f3, 0x3f3504f3},
		{0x3fe4000000000000, 0xbf3504f3, 0xbf3504f3},
		{0x3fec000000000000, 0x3f3504f3, 0xbf3504f3},
		{0x39b4484bfeebc2a0, 0x3f800000, 0x0efee054},
		{0x01a56e1fc2f8f359, 0x3f800000, 0x00000000},
		{0xbca0000000000000, 0x3f800000, 0xa6490fdb},
		{0x3fcfffffffffffff, 0x25490fdb, 0x3f800000},
		{0x3fefffffffffffff, 0x3f800000, 0xa6490fdb},
	} {
		isComplex(t, "PhasorOf", impl.PhasorOf(math.Float64frombits(c.turns)), cnum(c.re, c.im))
	}
}

func TestPhasorOfQuarters(t *testing.T) {
	quarters := []complex64{1, cnum(0, 0x3f800000), cnum(0xbf800000, 0), cnum(0, 0xbf800000)}
	for n := range 64 {
		turns := float64(n) / 4
		isComplex(t, "quarters", impl.PhasorOf(turns), quarters[n%4])
		isComplex(t, "negative quarters", impl.PhasorOf(-16+turns), quarters[n%4])
	}
	isComplex(t, "-0", impl.PhasorOf(math.Copysign(0, -1)), cnum(0x3f800000, 0x80000000))
}

func TestPhasorOfEdges(t *testing.T) {
	for _, x := range []float64{math.NaN(), math.Float64frombits(0xfff0000000000001), math.Inf(1), math.Inf(-1)} {
		isComplex(t, "not finite", impl.PhasorOf(x), cnum(nanBits, nanBits))
	}
	for _, x := range []float64{1 << 52, 1<<52 + 1, 1 << 53, 1 << 63, 1e300, math.MaxFloat64} {
		isComplex(t, "far", impl.PhasorOf(x), 1)
		isComplex(t, "far below 0", impl.PhasorOf(-x), 1)
	}
	half := cnum(0xbf800000, 0)
	isComplex(t, "just below 2 to the power of 52", impl.PhasorOf(1<<52-0.5), half)
	isComplex(t, "just above its opposite", impl.PhasorOf(-(1<<52 - 0.5)), half)
	isComplex(t, "whole and not far", impl.PhasorOf(1<<52-1), 1)
	for _, x := range []float64{-1e-20, -0x1p-54, -1e-300, -5e-324} {
		isComplex(t, "so near below 0 that 1 is left", impl.PhasorOf(x), 1)
	}
}

func TestPhasorOfIsOnTheCircle(t *testing.T) {
	for n := -3000; n <= 3000; n++ {
		turns := float64(n) / 777
		x := impl.PhasorOf(turns)
		s, c := math.Sincos(2 * math.Pi * turns)
		if math.Abs(float64(real(x))-c) > 1e-7 || math.Abs(float64(imag(x))-s) > 1e-7 {
			t.Errorf("PhasorOf(%v): got %v", turns, x)
		}
	}
}

func TestSineTurns(t *testing.T) {
	for _, c := range []struct{ x, want uint32 }{
		{0x3e83d282, 0x3f7fb7eb}, {0x3e8225f0, 0x3f7fe93b}, {0x3e689238, 0x3f7d5bfa}, {0x3e87c1a0, 0x3f7ed758},
		{0x3dcccccd, 0x3f167918}, {0xbdcccccd, 0xbf167918}, {0x3eaaaaab, 0x3f5db3d7}, {0xbeaaaaab, 0xbf5db3d7},
		{0x3f19999a, 0xbf16791a}, {0x3f666666, 0xbf16791a}, {0xbf19999a, 0x3f16791a}, {0x3fa66666, 0x3f737872},
		{0xc0f66666, 0x3f73786a}, {0x447a0800, 0x3f3504f3}, {0xc7f1205a, 0x3f74fa0b}, {0x000116c2, 0x0006d77d},
		{0x33d6bf95, 0x3528a9b9}, {0xb3d6bf95, 0xb528a9b9}, {0x3e7ffff9, 0x3f800000}, {0x3efffffd, 0x3516cbe4},
		{0x3300d959, 0x344a6543}, {0xb300d959, 0xb44a6543}, {0xb2f91bad, 0xb443a628},
		{0x3e800000, 0x3f800000}, {0x3f400000, 0xbf800000}, {0xbe800000, 0xbf800000}, {0xbf400000, 0x3f800000},
	} {
		isNumber(t, "SineTurns", impl.SineTurns(num(c.x)), num(c.want))
	}
}

func TestSineTurnsZeros(t *testing.T) {
	for _, x := range []float32{0, 1, -1, 2, -3, 1 << 23, -(1 << 24), 1 << 51, -(1 << 51)} {
		isNumber(t, "whole turns", impl.SineTurns(x), 0)
	}
	minus := num(0x80000000)
	for _, x := range []float32{minus, 0.5, -0.5, 1.5, -7.5, 8388607.5, -8388607.5} {
		isNumber(t, "-0 and half turns", impl.SineTurns(x), minus)
	}
	for _, x := range []float32{-1e-20, -1e-30, num(0x80000001), num(0x807fffff)} {
		isNumber(t, "so near below 0 that 1 is left", impl.SineTurns(x), minus)
	}
	for _, x := range []float32{1 << 52, -(1 << 52), 1 << 53, 1 << 63, -(1 << 63), 1e30, -math.MaxFloat32} {
		isNumber(t, "far", impl.SineTurns(x), 0)
	}
	for _, b := range []uint32{0x7f800000, 0xff800000, nanBits, 0x7f800001, 0xffffffff} {
		isNumber(t, "not finite", impl.SineTurns(num(b)), num(nanBits))
	}
}

func TestAngleTurns(t *testing.T) {
	for _, c := range []struct{ y, x, want uint32 }{
		{0x4b6536e0, 0x4b685391, 0x3dfdcd5f}, {0x4ace9956, 0x4b11401b, 0x3dc97fc2}, {0x4a6d722c, 0x4aa00804, 0x3dd00c01},
		{0x4b495961, 0x4b6418c5, 0x3debb98a}, {0x4b141648, 0x4b2be095, 0x3de7cf2c}, {0x4b0cf6f8, 0x4b16361f, 0x3df5a70b},
		{0x3f800000, 0x40000000, 0x3d972029}, {0xbf800000, 0x40000000, 0xbd972029}, {0x3f800000, 0xc0000000, 0x3eda37f6},
		{0xbf800000, 0xc0000000, 0xbeda37f6}, {0x40000000, 0x3f800000, 0x3e346fec}, {0xc0000000, 0x3f800000, 0xbe346fec},
		{0x40000000, 0xbf800000, 0x3ea5c80a}, {0xc0000000, 0xbf800000, 0xbea5c80a}, {0x40400000, 0x40400000, 0x3e000000},
		{0x000116c2, 0x000116c2, 0x3e000000}, {0x7e967699, 0xff61b1e6, 0x3ee5c80a}, {0x00000001, 0x00000001, 0x3e000000},
		{0x80000001, 0xbf800000, 0xbf000000}, {0x00000001, 0x80000007, 0x3ef46fec}, {0x40a00000, 0x41400000, 0x3d80ae91},
		{0x3dcccccd, 0x3e99999a, 0x3d51bfae}, {0xbf333333, 0x3e4ccccd, 0xbe52a4eb},
		{0x00000000, 0x3f800000, 0x00000000}, {0x80000000, 0x3f800000, 0x00000000}, {0x80000001, 0x3f800000, 0x80000000},
		{0x00000000, 0xbf800000, 0x3f000000}, {0x80000000, 0xbf800000, 0x3f000000}, {0x00000000, 0x80000001, 0x3f000000},
		{0x3f800000, 0x00000000, 0x3e800000}, {0x3f800000, 0x80000000, 0x3e800000}, {0xbf800000, 0x80000000, 0xbe800000},
		{0x00000001, 0x7f7fffff, 0x00000000}, {0x80000001, 0x7f7fffff, 0x80000000}, {0x7f7fffff, 0x00000001, 0x3e800000},
		{0x00000000, 0x00000000, 0}, {0x80000000, 0x00000000, 0}, {0x00000000, 0x80000000, 0}, {0x80000000, 0x80000000, 0},
		{0x7f800000, 0x3f800000, nanBits}, {0x3f800000, 0xff800000, nanBits}, {0x7f800000, 0x7f800000, nanBits},
		{nanBits, 0x3f800000, nanBits}, {0x00000000, 0x7f800001, nanBits}, {0x7f800000, 0x00000000, nanBits}, {0, 0xffffffff, nanBits},
	} {
		isNumber(t, "AngleTurns", impl.AngleTurns(num(c.y), num(c.x)), num(c.want))
		isNumber(t, "AngleOf", impl.AngleOf(cnum(c.x, c.y)), num(c.want))
	}
}

func TestAnglesOfPhasors(t *testing.T) {
	for n := -1000; n <= 1000; n++ {
		turns := float64(n) / 2003
		got := impl.AngleOf(impl.PhasorOf(turns))
		if math.Abs(float64(got)-turns) > 3e-8 {
			t.Errorf("the angle of the phasor of %v is %v", turns, got)
		}
	}
	isNumber(t, "the angle of i", impl.AngleOf(impl.PhasorOf(0.25)), 0.25)
}

func TestTenthsOf(t *testing.T) {
	for _, c := range []struct {
		bits uint32
		want int64
	}{
		{0x00011392, -4000}, {0x2b022611, -1233}, {0x3dca74a8, -100}, {0x3ef7e571, -31}, {0x3efdaba6, -30},
		{0x3f3b9a64, -13}, {0x3f3ff912, -12}, {0x3f71adfa, -2}, {0x3f774f1d, -1}, {0x3f7d11d1, 0}, {0x3f817b70, 1}, {0x3f847f8a, 2},
		{0x3f8795a1, 3}, {0x3fa6ce2c, 12}, {0x3fbb28a0, 17}, {0x3fbf84a7, 18}, {0x3ffc785a, 30}, {0x40012ceb, 31}, {0x411e2b23, 100},
		{0x47c113a8, 500}, {0x50134e4f, 1000}, {0x7f7c0000, 3853}, {0x02358271, -3687}, {0x07399bf4, -3385}, {0x103e927c, -2842}, {0x58b64495, 1521},
	} {
		first, one := impl.TenthsOf(num(c.bits))
		before, two := impl.TenthsOf(num(c.bits - 1))
		isShown(t, "the least power with so many tenths, and the one before", show(first, one, before, two), show(c.want, true, c.want-1, true))
	}
}

func TestTenthsOfEdges(t *testing.T) {
	power := float32(1)
	for n := range int64(11) {
		got, ok := impl.TenthsOf(power)
		isShown(t, "powers of ten", show(got, ok), show(100*n, true))
		power *= 10
	}
	for _, c := range []struct {
		bits uint32
		want int64
	}{{0x3f400000, -12}, {0x3fc00000, 18}, {0x3f800000, 0}, {1, -4485}, {0x007fffff, -3793}, {0x7f7fffff, 3853}} {
		got, ok := impl.TenthsOf(num(c.bits))
		isShown(t, "TenthsOf", show(got, ok), show(c.want, true))
	}
	for _, b := range []uint32{0, 0x80000000, 0x80000001, 0xbf800000, 0x7f800000, 0xff800000, nanBits, 0x7f800001, 0xffffffff} {
		got, ok := impl.TenthsOf(num(b))
		isShown(t, "TenthsOf no power", show(got, ok), show(int64(0), false))
	}
}
