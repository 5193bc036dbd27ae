package tests

import (
	"math"
	"strings"
	"testing"

	"loop.example/g01231/impl"
)

// blockRow is a block, its exponent, its bytes, and the numbers that these tell.
type blockRow struct {
	words    string
	exponent int64
	bytes    string
	kept     string
}

func someBlockRows() []blockRow {
	return []blockRow{
		{"3f800000,c0000000", 2, "66002000c0", "3f800000,c0000000"},
		{"00000000", -100, "000000", "00000000"},
		{"80000000", -100, "000000", "00000000"},
		{"00000000,80000000", -100, "0000000000", "00000000,00000000"},
		{"80000000,80000000,80000000,80000000,80000000,80000000,80000000,80000000", -100, "0000000000000000000000000000000000", "00000000,00000000,00000000,00000000,00000000,00000000,00000000,00000000"},
		{"00000000,00000000,00000000,00000000,00000000,00000000,00000000,00000000", -100, "0000000000000000000000000000000000", "00000000,00000000,00000000,00000000,00000000,00000000,00000000,00000000"},
		{"00000001", -100, "000000", "00000000"},
		{"00000001,80000001,80000000", -100, "00000000000000", "00000000,00000000,00000000"},
		{"007fffff,807fffff", -100, "0000000000", "00000000,00000000"},
		{"06000000", -100, "000100", "06000000"},
		{"05800000", -100, "000000", "00000000"},
		{"05800001", -100, "000100", "06000000"},
		{"85800000,85800001", -100, "000000ffff", "00000000,86000000"},
		{"06400000,86400000,06a00000", -100, "000200feff0200", "06800000,86800000,06800000"},
		{"00800000,3f800000", 1, "6500000040", "00000000,3f800000"},
		{"0d7ffe00", -100, "00ff7f", "0d7ffe00"},
		{"0d7ffe01", -99, "010040", "0d800000"},
		{"0dfffe00,80000001", -99, "01ff7f0000", "0dfffe00,00000000"},
		{"3f7ffe00", 0, "64ff7f", "3f7ffe00"},
		{"bf7ffe00", 0, "640180", "bf7ffe00"},
		{"3f7ffdff", 0, "64ff7f", "3f7ffe00"},
		{"3f7ffe01", 1, "650040", "3f800000"},
		{"bf7ffe01", 1, "6500c0", "bf800000"},
		{"3ffffe00", 1, "65ff7f", "3ffffe00"},
		{"bffffe00", 1, "650180", "bffffe00"},
		{"3ffffdff", 1, "65ff7f", "3ffffe00"},
		{"3ffffe01", 2, "660040", "40000000"},
		{"bffffe01", 2, "6600c0", "c0000000"},
		{"70fffe00", 99, "c7ff7f", "70fffe00"},
		{"f0fffe00", 99, "c70180", "f0fffe00"},
		{"70fffdff", 99, "c7ff7f", "70fffe00"},
		{"3f800000", 1, "650040", "3f800000"},
		{"bf800000", 1, "6500c0", "bf800000"},
		{"3f000000", 0, "640040", "3f000000"},
		{"3f7fffff", 1, "650040", "3f800000"},
		{"46fffe00,3f000000,3fc00000,40200000,bf000000,bfc00000,c0200000,80000000", 15, "73ff7f0000020002000000fefffeff0000", "46fffe00,00000000,40000000,40000000,00000000,c0000000,c0000000,00000000"},
		{"47000000,3f800000,40400000,40a00000,bf800000,c0400000,c0a00000,3f666666", 16, "7400400000020002000000fefffeff0000", "47000000,00000000,40800000,40800000,00000000,c0800000,c0800000,00000000"},
		{"46fffe00,3f000001,3effffff,3fbfffff,3fc00001,bf000001,beffffff,bfbfffff", 15, "73ff7f0100000001000200ffff0000ffff", "46fffe00,3f800000,00000000,3f800000,40000000,bf800000,00000000,bf800000"},
		{"46fffd00", 15, "73fe7f", "46fffc00"},
		{"46fffd01,c6fffd01", 15, "73ff7f0180", "46fffe00,c6fffe00"},
		{"c6fffd00", 15, "730280", "c6fffc00"},
		{"467ffe00,46800000", 15, "7300400040", "46800000,46800000"},
		{"42c80000,c37f0000,43800000,c3800000,43808000", 9, "6d001940c0004000c04040", "42c80000,c37f0000,43800000,c3800000,43808000"},
		{"70800000,69000000,69800000,e9000000,69c00000,3f800000,80000001,00000000", 99, "c700400000010000000200000000000000", "70800000,00000000,69800000,00000000,6a000000,00000000,00000000,00000000"},
		{"bf75bc01", 0, "642285", "bf75bc00"},
		{"c2016f00", 6, "6a48bf", "c2017000"},
		{"3f395812,3f3d4fde", 0, "64ac5ca85e", "3f395800,3f3d5000"},
		{"4816d289,5ab5013b", 55, "9b0000815a", "00000000,5ab50200"},
		{"bf5e76c8,bf54d6a1,3cdb8bc0", 0, "64c59095956e03", "bf5e7600,bf54d600,3cdb8000"},
		{"ccd45390,dea09030,121c28f8", 63, "a30000b8af0000", "00000000,dea09000,00000000"},
		{"3f5096ba,3f5fd8ae,3d20f900,bfab2ca5", 1, "652634f63784026aaa", "3f509800,3f5fd800,3d210000,bfab2c00"},
		{"532271df,65c645a1,17a90ff8,2b1d638a", 77, "b10000236300000000", "00000000,65c64600,00000000,00000000"},
		{"bf47318f,bf324dd3,3d549520,3fbd5cfb,bef4e3bc", 1, "6534ce6dd35203ae5e64e1", "bf473000,bf324c00,3d548000,3fbd5c00,bef4e000"},
		{"d7a5c91c,e83367c0,1d35f700,2f9e69b0,435c49ba", 82, "b600004ca6000000000000", "00000000,e8336800,00000000,00000000,00000000"},
		{"3f67dbf6,3f8130bd,3d841890,3f827525,bf7ff2e4,bf76f006", 1, "65f739984021043b4103c044c2", "3f67dc00,3f813000,3d842000,3f827600,bf7ff400,bf76f000"},
		{"5e2e147b,91cbe425,22c2c3c8,b59c6a80,482d9e84,5b57c84a", 62, "a20a570000000000000000b001", "5e2e1400,00000000,00000000,00000000,00000000,5b580000"},
		{"bf2ff2e4,bf0fc504,3d9de6a0,3f0f212e,bfc2b9f5,3f975255,3eb18fc4", 1, "6503d40fdcef04c823a39ea94b3216", "bf2ff400,bf0fc400,3d9de000,3f0f2000,bfc2ba00,3f975200,3eb19000"},
		{"e26e9790,15676c90,284faad0,bbc3fe5c,cd3ac710,e012f1a8,1442339a", 70, "aab488000000000000000068fb0000", "e26e9800,00000000,00000000,00000000,00000000,e0130000,00000000"},
		{"3f7f1a9e,3f92786b,3db78030,3dca8c10,3f9df3b7,3d563880,3f858e21,3f74fdf2", 1, "65c73f3c49bc055406fa4e5903c7423f3d", "3f7f1c00,3f927800,3db78000,3dca8000,3f9df400,3d564000,3f858e00,3f74fc00"},
		{"6939b717,9cba9c77,2ddc91d0,c19ce704,d3b432ca,e6b56041,1a3a40b7,acc4710c", 84, "b8dc5c00000000000000002afd00000000", "6939b800,00000000,00000000,00000000,00000000,e6b58000,00000000,00000000"},
	}
}

func TestBlocks(t *testing.T) {
	for _, c := range someBlockRows() {
		block := numsOf(t, c.words)
		isShown(t, c.words, show(impl.ExponentOf(block)), show(c.exponent, true))
		isShown(t, c.words, showBytes(impl.PackBlock(block)), show(c.bytes, true))
		isShown(t, c.words, show(impl.UnpackBlock(bytesOf(t, c.bytes))), show(numsOf(t, c.kept), true))
	}
}

// At 32767 / 32768 of a power of 2, its exponent is just enough for both signs and
// in each place.
func TestExponentsAreTheLeastOnes(t *testing.T) {
	for e := -100; e <= 99; e++ {
		most := float32(math.Ldexp(32767, e-15))
		for count := 1; count <= 8; count++ {
			for at := range count {
				for _, sign := range []float32{1, -1} {
					block := filled(count, most/3)
					block[at] = sign * most
					isShown(t, show(e, count, at, sign), show(impl.ExponentOf(block)), show(e, true))
					block[at] = sign * just(most, 1)
					isShown(t, show(e, count, at, sign, "more"), show(impl.ExponentOf(block)), show(e+1, true))
					if e > -100 {
						block[at] = sign * just(most, -1)
						isShown(t, show(e, count, at, sign, "less"), show(impl.ExponentOf(block)), show(e, true))
					}
				}
			}
		}
	}
}

func TestExponentsOfSmallAndGreatBlocks(t *testing.T) {
	minus, least, most := minusZero(), num(1), just(twoTo(99), -1)
	for _, c := range []struct {
		block []float32
		want  string
	}{
		{nums(0), "-100;true;"},
		{nums(minus), "-100;true;"},
		{filled(8, minus), "-100;true;"},
		{nums(0, minus, least, -least), "-100;true;"},
		{nums(num(0x007fffff), -num(0x007fffff)), "-100;true;"},
		{nums(twoTo(-101)), "-100;true;"},
		{nums(twoTo(-100)), "-99;true;"},
		{nums(0, 0, 0, 0, 0, 0, 0, -twoTo(-100)), "-99;true;"},
		{nums(twoTo(-99)), "-98;true;"},
		{nums(1), "1;true;"},
		{nums(-1, minus), "1;true;"},
		{nums(just(1, -1)), "1;true;"},
		{nums(32767), "15;true;"},
		{nums(32767.5), "16;true;"},
		{nums(32768), "16;true;"},
		{nums(twoTo(98)), "99;true;"},
		{nums(-twoTo(98)), "99;true;"},
		{nums(most), "100;true;"},
		{nums(1, 2, -most), "100;true;"},
		{nil, noInteger},
		{nums(), noInteger},
		{make([]float32, 9), noInteger},
		{wavy(9, 1), noInteger},
		{wavy(16, 1), noInteger},
		{wavy(1000, 1), noInteger},
	} {
		isShown(t, show(c.block), show(impl.ExponentOf(c.block)), c.want)
	}
}

func TestNoBlocks(t *testing.T) {
	lists := [][]float32{nil, {}, make([]float32, 9), wavy(9, 1), wavy(16, 1), wavy(128, 1), ones[float32](1000)}
	for _, x := range noNumbers() {
		for count := 1; count <= 8; count++ {
			for at := range count {
				lists = append(lists, withNumber(wavy(count, 3), at, x))
			}
		}
	}
	for _, list := range lists {
		isShown(t, show(list), show(impl.ExponentOf(list)), noInteger)
		isShown(t, show(list), showBytes(impl.PackBlock(list)), noBytes)
	}
	isShown(t, "edges", show(impl.ExponentOf(wavy(8, 1))), "1;true;")
}

// In the middle between two integers, the even one is taken; next to it, the nearer
// one.
func TestNumbersBetweenTwoIntegers(t *testing.T) {
	for e := -99; e <= 98; e += 7 {
		unit := math.Ldexp(1, e-15)
		for n := range 300 {
			for _, sign := range []float64{1, -1} {
				middle := float32(sign * (float64(n) + 0.5) * unit)
				below, above := just(middle, -1), just(middle, 1)
				s, ok := impl.PackBlock(nums(float32(32767*unit), middle, below, above))
				isShown(t, show(e, n, sign), show(ok, len(s)), "true;9;")
				even := n + n%2
				for k, want := range []int{32767, int(sign) * even, int(sign) * n, int(sign) * (n + 1)} {
					got := int(int16(uint16(s[1+2*k]) | uint16(s[2+2*k])<<8))
					isShown(t, show(e, n, sign, k), show(got), show(want))
				}
			}
		}
	}
}

// The greatest numbers of a block are 32767 and -32767, as are those that are nearer
// to them than to others.
func TestGreatestIntegers(t *testing.T) {
	for e := -99; e <= 99; e++ {
		most, near := float32(math.Ldexp(32767, e-15)), float32(math.Ldexp(32766.5, e-15))
		for _, c := range []struct {
			x    float32
			want string
		}{
			{most, "ff7f"}, {just(most, -1), "ff7f"}, {just(near, 1), "ff7f"}, {near, "fe7f"}, {just(near, -1), "fe7f"},
			{-most, "0180"}, {-just(most, -1), "0180"}, {-just(near, 1), "0180"}, {-near, "0280"}, {-just(near, -1), "0280"},
		} {
			isShown(t, show(c.x), showBytes(impl.PackBlock(nums(c.x))), show(showByte(e+100)+c.want, true))
		}
		// The next numbers need the next exponent, and become half of an integer more.
		if e < 99 {
			isShown(t, show(e), showBytes(impl.PackBlock(nums(just(most, 1), -just(most, 1)))), show(showByte(e+101)+"004000c0", true))
		}
	}
}

func TestPackedBlocks(t *testing.T) {
	var all strings.Builder
	for e := -149; e <= 97; e++ {
		for count := 1; count <= 8; count++ {
			block := sized(count, uint32(count*1000+e), e)
			all.WriteString(showBytes(impl.PackBlock(block)))
		}
	}
	for seed := range uint32(400) {
		all.WriteString(showBytes(impl.PackBlock(spread(int(seed)%8+1, seed))))
	}
	isShown(t, "some", digest(all.String()), "42fa875c")
}

// A block is told by its bytes alone if its exponent is no greater than it need be:
// if it is the least one, or an integer is at least 16384, but none is -32768.
func TestUnpackedBlocks(t *testing.T) {
	for first := range 256 {
		for count := 1; count <= 8; count++ {
			for at := range count {
				for _, n := range []int{0, 1, -1, 2, 255, 256, -256, 8192, 16383, -16383, 16384, -16384, 16385, -16385, 32766, 32767, -32767, -32768} {
					integers := make([]int, count)
					integers[at] = n
					areUnpacked(t, first, integers)
				}
			}
		}
	}
	for seed := range uint32(2000) {
		list := wavy(int(seed%8)+1, seed)
		integers := make([]int, len(list))
		for k, x := range list {
			integers[k] = int(x * 19999)
		}
		areUnpacked(t, int(seed%201), integers)
	}
}

// areUnpacked checks what bytes of a block tell.
func areUnpacked(t *testing.T, first int, integers []int) {
	t.Helper()
	s := []byte{byte(first)}
	var want []float32
	isBlock, isLeast := first < 200, first > 0
	for _, n := range integers {
		s = append(s, byte(n), byte(n>>8))
		want = append(want, float32(math.Ldexp(float64(n), first-115)))
		isBlock = isBlock && n != -32768
		isLeast = isLeast && -16384 < n && n < 16384
	}
	if !isBlock || isLeast {
		isShown(t, show(s), show(impl.UnpackBlock(string(s))), noList)
		return
	}
	isShown(t, show(s), show(impl.UnpackBlock(string(s))), show(want, true))
}

func TestBytesOfNoBlocks(t *testing.T) {
	for _, digits := range []string{
		"", "00", "64", "66", "c8", "c9", "ff", "0000", "6600", "65004000", "65004000c0ff", "66002000c0ff",
		"660000", "6600001000", "01ff3f", "0101c0", "010000", "640000", "c80000", "c90000", "ff0000", "c80040", "c800c0", "c8ff3f", "c8ff7f", "c90040", "ff0040",
		"660080", "65004000800040", "0000800000", "000080", "c70080", "c80080", "64ff3f", "6401c0",
	} {
		isShown(t, digits, show(impl.UnpackBlock(bytesOf(t, digits))), noList)
	}
	// Too many bytes, with which all would be well otherwise.
	for count := 9; count < 140; count++ {
		isShown(t, show(count), show(impl.UnpackBlock("\x00"+strings.Repeat("\x01\x00", count))), noList)
		isShown(t, show(count), show(impl.UnpackBlock("\x65"+strings.Repeat("\x00\x40", count))), noList)
	}
	isShown(t, "most", show(impl.UnpackBlock("\x65"+strings.Repeat("\x00\x40", 8))), show(ones[float32](8), true))
	isShown(t, "many", show(impl.UnpackBlock(strings.Repeat("\x00", 1000001))), noList)
	// A byte less or more.
	for _, c := range someBlockRows() {
		s := bytesOf(t, c.bytes)
		isShown(t, c.bytes, show(impl.UnpackBlock(s[:len(s)-1])), noList)
		for _, more := range []string{"\x00", "\x40", "\x80", "\xff"} {
			isShown(t, c.bytes, show(impl.UnpackBlock(s+more)), noList)
		}
	}
}
