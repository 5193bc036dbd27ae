package tests

import (
	"math"
	"strings"
	"testing"

	"loop.example/g01231/impl"
)

// many joins so many of a word.
func many(word string, count int) string {
	return strings.TrimSuffix(strings.Repeat(word+",", count), ",")
}

func TestNumbersText(t *testing.T) {
	for _, c := range []struct {
		list []float32
		want string
	}{
		{nil, "none"}, {[]float32{}, "none"}, {[]float32{1, -2}, "3f800000,c0000000"}, {[]float32{0}, "00000000"},
		{[]float32{num(0x80000000), num(1), num(0x80000001), num(0x00abcdef)}, "80000000,00000001,80000001,00abcdef"},
		{[]float32{num(0x7f800000), num(0xff800000)}, "7f800000,ff800000"},
		{[]float32{num(0xffffffff), num(0x7f800001), num(nanBits)}, "7fc00000,7fc00000,7fc00000"},
		{ones[float32](256), many("3f800000", 256)},
	} {
		got, ok := impl.NumbersText(c.list)
		isShown(t, "NumbersText", show(got, ok), show(c.want, true))
		back, ok := impl.ReadNumbers(c.want)
		isShown(t, "ReadNumbers "+c.want, show(back, ok), show(c.list, true))
	}
	got, ok := impl.NumbersText(ones[float32](257))
	isShown(t, "257 numbers", show(got, ok), show("", false))
}

func TestComplexText(t *testing.T) {
	for _, c := range []struct {
		list []complex64
		want string
	}{
		{nil, "none"}, {[]complex64{1}, "3f80000000000000"}, {[]complex64{1, complex(0, -2)}, "3f80000000000000,00000000c0000000"},
		{[]complex64{cnum(0x80000000, 1), cnum(0xff800000, 0x7f800001)}, "8000000000000001,ff8000007fc00000"},
		{ones[complex64](256), many("3f80000000000000", 256)},
	} {
		got, ok := impl.ComplexText(c.list)
		isShown(t, "ComplexText", show(got, ok), show(c.want, true))
		back, ok := impl.ReadComplex(c.want)
		isShown(t, "ReadComplex "+c.want, show(back, ok), show(c.list, true))
	}
	got, ok := impl.ComplexText(ones[complex64](257))
	isShown(t, "257 numbers", show(got, ok), show("", false))
}

func TestReadNumbersFails(t *testing.T) {
	one := "3f800000"
	for _, s := range []string{"", ",", "None", "none ", "none,", "none,none", one + ",none", "none," + one, "3f80000", "3f8000000",
		"3F800000", "3f80000G", one + ",", "," + one, one + ",," + one, " " + one, one + " ", one + ", " + one, one + ";" + one,
		one + "\n", "+f800000", "-f800000", "0x3f8000", "3f80_000", "7fc00001", "ffc00000", "7f800001", "ffffffff", one + ",7fffffff",
		one + one, "1", "3f8000\x000", "３f80000", many(one, 257), strings.Repeat(",", 1000)} {
		got, ok := impl.ReadNumbers(s)
		isShown(t, "ReadNumbers "+s, show(got, ok), show([]float32(nil), false))
	}
}

func TestReadComplexFails(t *testing.T) {
	one := "3f80000000000000"
	for _, s := range []string{"", ",", "None", "none,", one + ",none", "3f800000", "3f800000,00000000", "3f8000000000000", one + "0",
		"3F80000000000000", "000000003F800000", one + ",", "," + one, one + ",," + one, " " + one, one + " ", one + "," + one[:8],
		"7fc0000100000000", "00000000ffc00000", "3f800000+0000000", "3f80000 00000000", one + one, many(one, 257)} {
		got, ok := impl.ReadComplex(s)
		isShown(t, "ReadComplex "+s, show(got, ok), show([]complex64(nil), false))
	}
}

func TestIsName(t *testing.T) {
	for _, s := range []string{"a", "z", "ring", "abcdefgh", "zzzzzzzz"} {
		if !impl.IsName(s) {
			t.Errorf("IsName(%q) is false", s)
		}
	}
	for _, s := range []string{"", "abcdefghi", "A", "aB", "a1", "a ", " a", "a-b", "`", "{", "ä", "a\x00", "a\n", "\xff", strings.Repeat("a", 1000)} {
		if impl.IsName(s) {
			t.Errorf("IsName(%q) is true", s)
		}
	}
}

func TestDecimal(t *testing.T) {
	for _, c := range []struct {
		n    int64
		want string
	}{
		{0, "0"}, {-4, "-4"}, {7, "7"}, {10, "10"}, {-120, "-120"}, {1000000000000000, "1000000000000000"}, {-1000000000000000, "-1000000000000000"},
	} {
		isShown(t, "Decimal", impl.Decimal(c.n), c.want)
		n, ok := impl.ReadDecimal(c.want)
		isShown(t, "ReadDecimal", show(n, ok), show(c.n, true))
	}
	isShown(t, "the greatest", impl.Decimal(math.MaxInt64), "9223372036854775807")
	isShown(t, "the least", impl.Decimal(math.MinInt64), "-9223372036854775808")
}

func TestReadDecimalFails(t *testing.T) {
	for _, s := range []string{"", "-", "+", "+1", "-0", "00", "01", "-01", " 1", "1 ", "1\n", "1_000", "0x1", "1.0", "1e3", "--1", "a", "１", "none",
		"1000000000000001", "-1000000000000001", "9223372036854775807", "9223372036854775808", "-9223372036854775808", "18446744073709551617",
		strings.Repeat("9", 1000)} {
		n, ok := impl.ReadDecimal(s)
		isShown(t, "ReadDecimal "+s, show(n, ok), show(int64(0), false))
	}
}

func TestListText(t *testing.T) {
	for _, c := range []struct {
		list []int64
		want string
	}{
		{nil, "none"}, {[]int64{}, "none"}, {[]int64{0}, "0"}, {[]int64{3, -12, 0, 3}, "3,-12,0,3"},
		{[]int64{1000000000000000, -1000000000000000}, "1000000000000000,-1000000000000000"}, {ones[int64](64), many("1", 64)},
	} {
		got, ok := impl.ListText(c.list)
		isShown(t, "ListText", show(got, ok), show(c.want, true))
		back, ok := impl.ReadList(c.want)
		isShown(t, "ReadList", show(len(back), ok), show(len(c.list), true))
		again, ok := impl.ListText(back)
		isShown(t, "ListText of ReadList", show(again, ok), show(c.want, true))
	}
	for _, list := range [][]int64{ones[int64](65), {1000000000000001}, {-1000000000000001}, {1, math.MinInt64}, {math.MaxInt64, 1}} {
		got, ok := impl.ListText(list)
		isShown(t, "ListText of no list", show(got, ok), show("", false))
	}
}

func TestReadListFails(t *testing.T) {
	for _, s := range []string{"", ",", "1,", ",1", "1,,2", "1, 2", "1;2", "-0", "1,-0", "01", "1,+2", "none,", "none,1", "1,none", "None", "1,2\n",
		"1,1000000000000001", "-1000000000000001", many("1", 65)} {
		got, ok := impl.ReadList(s)
		isShown(t, "ReadList "+s, show(len(got), ok), show(0, false))
	}
}

func TestCheckOf(t *testing.T) {
	all := make([]byte, 256)
	for i := range all {
		all[i] = byte(i)
	}
	for _, c := range []struct {
		start int64
		s     string
		want  int64
	}{
		{0, "a", 158}, {0, "", 0}, {65002, "", 65002}, {65002, "\xff", 64586}, {0, "\x00", 61},
		{1, "waves in the ground", 2745}, {17, string(all), 15636}, {0, "\u00e4\u4e16", 28685},
	} {
		got, ok := impl.CheckOf(c.start, c.s)
		isShown(t, "CheckOf", show(got, ok), show(c.want, true))
	}
	for _, start := range []int64{-1, 65003, 65004, math.MinInt64, math.MaxInt64} {
		got, ok := impl.CheckOf(start, "a")
		isShown(t, "CheckOf with no start", show(got, ok), show(int64(0), false))
		got, ok = impl.CheckOf(start, "")
		isShown(t, "CheckOf with no start", show(got, ok), show(int64(0), false))
	}
}
