package tests

import (
	"math"
	"strings"
	"testing"

	"loop.example/g01231/impl"
)

func TestSampleBetween(t *testing.T) {
	minus, inf, nan, high := minusZero(), infinite(), notNumber(), float32(math.MaxFloat32)
	for _, c := range []struct {
		list []float32
		t    float32
		want string
	}{
		{[]float32{0, 2, 4}, 1.5, "40400000;true;"},
		{[]float32{0, 2, 4}, 0, "00000000;true;"},
		{[]float32{0, 2, 4}, 1, "40000000;true;"},
		{[]float32{0, 2, 4}, 2, "40800000;true;"},
		{[]float32{0, 2, 4}, 0.25, "3f000000;true;"},
		{[]float32{0, 2, 4}, 1.9999999, "407fffff;true;"},
		{[]float32{0, 2, 4}, 2.5, "00000000;true;"},
		{[]float32{0, 2, 4}, 2.0000002, "00000000;true;"},
		{[]float32{0, 2, 4}, -0.001, "00000000;true;"},
		{[]float32{0, 2, 4}, -num(1), "00000000;true;"},
		{[]float32{0, 2, 4}, minus, "00000000;true;"},
		{[]float32{0, 2, 4}, num(1), "00000002;true;"},
		{[]float32{0, 2, 4}, nan, "00000000;true;"},
		{[]float32{0, 2, 4}, inf, "00000000;true;"},
		{[]float32{0, 2, 4}, -inf, "00000000;true;"},
		{[]float32{0, 2, 4}, 3, "00000000;true;"},
		{[]float32{0, 2, 4}, 100, "00000000;true;"},
		{[]float32{3}, 0, "40400000;true;"},
		{[]float32{3}, minus, "40400000;true;"},
		{[]float32{3}, num(1), "00000000;true;"},
		{[]float32{3}, -num(1), "00000000;true;"},
		{[]float32{3}, 0.5, "00000000;true;"},
		{[]float32{3}, 1, "00000000;true;"},
		{[]float32{3}, nan, "00000000;true;"},
		{[]float32{3}, -1, "00000000;true;"},
		{[]float32{0.1, 0.7, -0.3}, 0.1, "3e23d70a;true;"},
		{[]float32{0.1, 0.7, -0.3}, 0.3333333, "3e999999;true;"},
		{[]float32{0.1, 0.7, -0.3}, 0.5, "3ecccccc;true;"},
		{[]float32{0.1, 0.7, -0.3}, 0.9999999, "3f333332;true;"},
		{[]float32{0.1, 0.7, -0.3}, 1.0000001, "3f333331;true;"},
		{[]float32{0.1, 0.7, -0.3}, 1.7, "b3800000;true;"},
		{[]float32{0.1, 0.7, -0.3}, 1.99, "be947ae2;true;"},
		{[]float32{1, -2, inf, 5, nan, 7, minus}, 0, "3f800000;true;"},
		{[]float32{1, -2, inf, 5, nan, 7, minus}, 0.5, "bf000000;true;"},
		{[]float32{1, -2, inf, 5, nan, 7, minus}, 1, "c0000000;true;"},
		{[]float32{1, -2, inf, 5, nan, 7, minus}, 1.5, "7f800000;true;"},
		{[]float32{1, -2, inf, 5, nan, 7, minus}, 2, "7f800000;true;"},
		{[]float32{1, -2, inf, 5, nan, 7, minus}, 2.5, "7fc00000;true;"},
		{[]float32{1, -2, inf, 5, nan, 7, minus}, 3, "40a00000;true;"},
		{[]float32{1, -2, inf, 5, nan, 7, minus}, 3.5, "7fc00000;true;"},
		{[]float32{1, -2, inf, 5, nan, 7, minus}, 4, "7fc00000;true;"},
		{[]float32{1, -2, inf, 5, nan, 7, minus}, 4.5, "7fc00000;true;"},
		{[]float32{1, -2, inf, 5, nan, 7, minus}, 5, "40e00000;true;"},
		{[]float32{1, -2, inf, 5, nan, 7, minus}, 5.5, "40600000;true;"},
		{[]float32{1, -2, inf, 5, nan, 7, minus}, 6, "80000000;true;"},
		{[]float32{inf, inf}, 0, "7f800000;true;"},
		{[]float32{inf, inf}, 0.5, "7fc00000;true;"},
		{[]float32{inf, inf}, 1, "7f800000;true;"},
		{[]float32{minus, minus}, 0, "80000000;true;"},
		{[]float32{minus, minus}, 0.5, "00000000;true;"},
		{[]float32{minus, minus}, 1, "80000000;true;"},
		{[]float32{minus, minus}, minus, "80000000;true;"},
		{[]float32{1e+30, -1e+30}, 0.3, "70a18f07;true;"},
		{[]float32{high, -high, high}, 0.25, "ff800000;true;"},
		{[]float32{high, -high, high}, 1, "ff7fffff;true;"},
		{[]float32{high, -high, high}, 1.5, "7f800000;true;"},
		{[]float32{high, -high, high}, 2, "7f7fffff;true;"},
		{[]float32{num(3), num(8)}, 0.3, "00000005;true;"},
		{[]float32{num(3), num(8)}, 0.5, "00000005;true;"},
		{[]float32{num(3), num(8)}, 0.7, "00000006;true;"},
		{withNumber(make([]float32, 64), 63, 5), 63, "40a00000;true;"},
		{withNumber(make([]float32, 64), 63, 5), 62.5, "40200000;true;"},
		{withNumber(make([]float32, 64), 63, 5), 62.999996, "409fffd8;true;"},
		{withNumber(make([]float32, 64), 63, 5), 63.001, "00000000;true;"},
		{withNumber(make([]float32, 64), 63, 5), 64, "00000000;true;"},
	} {
		isShown(t, show(c.list, c.t), show(impl.SampleBetween(c.list, c.t)), c.want)
	}
}

// Where a list begins and ends, to the last bit.
func TestEndsOfLists(t *testing.T) {
	for count := 1; count <= 64; count++ {
		list := wavy(count, 9)
		last := float32(count - 1)
		for k, x := range list {
			isShown(t, show(count, k), show(impl.SampleBetween(list, float32(k))), show(x, true))
		}
		for _, at := range []float32{-num(1), -1e-7, -0.5, -1, just(last, 1), last + 0.5, last + 1, 1e10, infinite(), -infinite(), notNumber()} {
			isShown(t, "beyond "+show(count, at), show(impl.SampleBetween(list, at)), show(float32(0), true))
		}
		isShown(t, "-0", show(impl.SampleBetween(list, minusZero())), show(list[0], true))
	}
	isShown(t, "just behind 0", show(impl.SampleBetween([]float32{3}, num(1))), show(float32(0), true))
	isShown(t, "just before the end", show(impl.SampleBetween([]float32{3, 0, 1}, just(2, -1))), "3f7ffffe;true;")
}

func TestSampleBetweenSome(t *testing.T) {
	var all strings.Builder
	for k, list := range someLists() {
		for _, x := range append(wavy(60, uint32(k)), someNumbers()...) {
			all.WriteString(show(impl.SampleBetween(list, float32(x*20)+31)))
			all.WriteString(show(impl.SampleBetween(list, x)))
		}
	}
	isShown(t, "some", digest(all.String()), "06cb1851")
	for _, list := range noLists() {
		for _, x := range []float32{0, 0.5, -1, notNumber()} {
			isShown(t, show(len(list), x), show(impl.SampleBetween(list, x)), noNumber)
		}
	}
}

func TestMoveTrace(t *testing.T) {
	minus, inf, nan := minusZero(), infinite(), notNumber()
	for _, c := range []struct {
		list []float32
		by   float32
		want string
	}{
		{[]float32{0, 2, 4}, 1, "00000000,00000000,40000000,;true;"},
		{[]float32{0, 2, 4}, -1, "40000000,40800000,00000000,;true;"},
		{[]float32{0, 2, 4}, 0, "00000000,40000000,40800000,;true;"},
		{[]float32{0, 2, 4}, minus, "00000000,40000000,40800000,;true;"},
		{[]float32{0, 2, 4}, 0.5, "00000000,3f800000,40400000,;true;"},
		{[]float32{0, 2, 4}, -0.5, "3f800000,40400000,00000000,;true;"},
		{[]float32{0, 2, 4}, 2, "00000000,00000000,00000000,;true;"},
		{[]float32{0, 2, 4}, -2, "40800000,00000000,00000000,;true;"},
		{[]float32{0, 2, 4}, 3, "00000000,00000000,00000000,;true;"},
		{[]float32{0, 2, 4}, -3, "00000000,00000000,00000000,;true;"},
		{[]float32{0, 2, 4}, 2.1, "00000000,00000000,00000000,;true;"},
		{[]float32{0, 2, 4}, -2.1, "00000000,00000000,00000000,;true;"},
		{[]float32{0, 2, 4}, nan, "00000000,00000000,00000000,;true;"},
		{[]float32{0, 2, 4}, inf, "00000000,00000000,00000000,;true;"},
		{[]float32{0, 2, 4}, -inf, "00000000,00000000,00000000,;true;"},
		{[]float32{0, 2, 4}, 1e+30, "00000000,00000000,00000000,;true;"},
		{[]float32{0, 2, 4}, num(1), "00000000,40000000,40800000,;true;"},
		{[]float32{0, 2, 4}, -num(1), "00000002,40000000,40800000,;true;"},
		{[]float32{7}, 0, "40e00000,;true;"},
		{[]float32{7}, minus, "40e00000,;true;"},
		{[]float32{7}, num(1), "00000000,;true;"},
		{[]float32{7}, -num(1), "00000000,;true;"},
		{[]float32{7}, 1, "00000000,;true;"},
		{[]float32{7}, nan, "00000000,;true;"},
		{[]float32{1, inf, -2, nan, 5}, 0, "3f800000,7f800000,c0000000,7fc00000,40a00000,;true;"},
		{[]float32{1, inf, -2, nan, 5}, 1, "00000000,3f800000,7f800000,c0000000,7fc00000,;true;"},
		{[]float32{1, inf, -2, nan, 5}, 0.5, "00000000,7f800000,7fc00000,7fc00000,7fc00000,;true;"},
		{[]float32{1, inf, -2, nan, 5}, -1.25, "7fc00000,7fc00000,7fc00000,00000000,00000000,;true;"},
		{[]float32{0.1, -0.7, 0.9, 0.4}, 0.3, "00000000,beeb851f,3ed70a3e,3f0ccccc,;true;"},
		{[]float32{0.1, -0.7, 0.9, 0.4}, -0.3, "be0f5c2a,be6147b4,3f400000,00000000,;true;"},
		{[]float32{0.1, -0.7, 0.9, 0.4}, 1.7, "00000000,00000000,be0f5c26,be6147b4,;true;"},
	} {
		isShown(t, show(c.list, c.by), show(impl.MoveTrace(c.list, c.by)), c.want)
	}
	var all strings.Builder
	for k, list := range someLists() {
		for _, x := range append(wavy(30, uint32(k)), someNumbers()...) {
			all.WriteString(show(impl.MoveTrace(list, float32(x*20))))
			all.WriteString(show(impl.MoveTrace(list, x)))
		}
	}
	isShown(t, "some", digest(all.String()), "0b264d3a")
	for _, list := range noLists() {
		isShown(t, show(len(list)), show(impl.MoveTrace(list, 0))+show(impl.MoveTrace(list, notNumber())), noList+noList)
	}
}

// A list that is moved by whole numbers is a trace that is shifted (chapter 3).
func TestMovesByWholeNumbers(t *testing.T) {
	for _, list := range someLists() {
		for by := int64(-70); by <= 70; by++ {
			isShown(t, show(len(list), by), show(impl.MoveTrace(list, float32(by))), show(impl.ShiftTrace(list, by)))
		}
	}
}
