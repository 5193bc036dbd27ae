package tests

import (
	"math"
	"strings"
	"testing"

	"loop.example/g01231/impl"
)

func TestEchoesOf(t *testing.T) {
	high := just(1, -1)
	for _, c := range []struct {
		r       []float32
		surface float32
		count   int64
		want    string
	}{
		{[]float32{0.5, 0.5}, 0, 3, "3f000000,3ec00000,bdc00000,;true;"},
		{[]float32{0.5, 0.5}, 0, 1, "3f000000,;true;"},
		{[]float32{0.5}, 0, 4, "3f000000,00000000,00000000,00000000,;true;"},
		{[]float32{0.5}, 1, 4, "3f000000,be800000,3e000000,bd800000,;true;"},
		{[]float32{0.5}, -1, 4, "3f000000,3e800000,3e000000,3d800000,;true;"},
		{[]float32{-0.5}, 0.5, 4, "bf000000,be000000,bd000000,bc000000,;true;"},
		{[]float32{0.3, -0.7, 0.1}, 0, 8, "3e99999a,bf23126e,bdb2e9cc,bbaf55c3,3a932369,39f8f4aa,38d0343a,37636125,;true;"},
		{[]float32{0.3, -0.7, 0.1}, 1, 8, "3e99999a,bf3a1cac,3ea4c837,bf09ee64,3e9c9aa4,bed23b31,3e8c0118,bea3baf2,;true;"},
		{[]float32{0.3, -0.7, 0.1}, -1, 8, "3e99999a,bf0c0830,bee29738,3e3c87e3,3ec4d64f,3d25b48e,be7cc4df,be0a598b,;true;"},
		{[]float32{0.3, -0.7, 0.1}, -0.4, 8, "3e99999a,bf19db22,be719503,3ddf3658,3dc1e3f5,bbcd756e,bce7c552,bbb55348,;true;"},
		{[]float32{0.3, -0.7, 0.1, 0.2, 0.3}, 0.9, 3, "3e99999a,bf37ced9,3e8e963e,;true;"},
		{[]float32{high}, 1, 5, "3f7fffff,bf7ffffe,3f7ffffd,bf7ffffc,3f7ffffb,;true;"},
		{[]float32{-high}, 1, 5, "bf7fffff,bf7ffffe,bf7ffffd,bf7ffffc,bf7ffffb,;true;"},
		{[]float32{high, high}, -1, 5, "3f7fffff,3f800000,3f7fffff,3f800000,3f7fffff,;true;"},
		{[]float32{high, -high, high}, 0, 6, "3f7fffff,b3ffffff,b3fffffb,b3fffff5,b3ffffed,b3ffffe3,;true;"},
	} {
		isShown(t, show(c.r, c.surface), show(impl.EchoesOf(c.r, c.surface, c.count)), c.want)
	}
	var all strings.Builder
	for _, r := range append(someCoefficients(), filled(24, high), filled(24, -high)) {
		for _, surface := range someSurfaces() {
			for _, count := range []int64{1, 2, 25, 128} {
				all.WriteString(show(impl.EchoesOf(r, surface, count)))
			}
		}
	}
	isShown(t, "some", digest(all.String()), "437a0af9")
}

// Where layers reflect nothing, the zeros that come back have the signs that the
// told operations give them.
func TestLayersThatReflectNothing(t *testing.T) {
	minus := minusZero()
	for _, c := range []struct {
		r       []float32
		surface float32
		want    string
	}{
		{[]float32{0}, 0, "00000000,00000000,00000000,00000000,;true;"},
		{[]float32{minus}, 0, "00000000,00000000,00000000,00000000,;true;"},
		{[]float32{minus}, minus, "00000000,00000000,00000000,00000000,;true;"},
		{[]float32{minus, minus}, 1, "00000000,00000000,00000000,00000000,;true;"},
		{[]float32{minus, minus}, -1, "00000000,00000000,00000000,00000000,;true;"},
		{[]float32{0, 0, 0}, -1, "00000000,00000000,00000000,00000000,;true;"},
		{[]float32{0, 0.5, 0}, 0, "00000000,3f000000,00000000,00000000,;true;"},
		{[]float32{minus, -0.5, minus}, 1, "00000000,bf000000,00000000,be800000,;true;"},
	} {
		isShown(t, show(c.r, c.surface), show(impl.EchoesOf(c.r, c.surface, 4)), c.want)
	}
	for _, surface := range someSurfaces() {
		isShown(t, "nothing", show(impl.EchoesOf(make([]float32, 24), surface, 128)), show(make([]float32, 128), true))
		r := make([]float32, 24)
		r[23] = 0.5
		echoes, _ := impl.EchoesOf(r, surface, 128)
		isShown(t, "the last one", show(echoes[:24]), show(r))
		for k, x := range echoes {
			isShown(t, "after some time only", show(x != 0), show(k%24 == 23 && (k == 23 || surface != 0)))
		}
	}
	var all strings.Builder
	for k := range 24 {
		for _, zero := range []float32{0, minus} {
			for _, surface := range someSurfaces() {
				r := withNumber(filled(24, zero), k, 0.7)
				all.WriteString(show(impl.EchoesOf(r, surface, 128)))
				echoes, _ := impl.EchoesOf(r, surface, 40)
				all.WriteString(show(impl.PeelTrace(echoes, surface, 24)))
			}
		}
	}
	isShown(t, "one that reflects", digest(all.String()), "18586ed5")
}

func TestEchoesThatAreNone(t *testing.T) {
	for _, count := range noCounts() {
		isShown(t, show(count), show(impl.EchoesOf([]float32{0.5}, 0, count)), noList)
	}
	for _, r := range coefficientsOfNone() {
		isShown(t, show(r), show(impl.EchoesOf(r, 0, 3)), noList)
	}
	a := []float32{0.5, 0.2}
	for _, s := range beyondSurfaces() {
		got := show(impl.EchoesOf(a, s, 2)) + show(impl.PeelTrace(a, s, 1)) + show(impl.AddSurface(a, s)) + show(impl.DropSurface(a, s))
		isShown(t, show(s), got, noList+noList+noList+noList)
	}
	for _, s := range someSurfaces() {
		_, one := impl.EchoesOf(a, s, 2)
		_, two := impl.PeelTrace(a, s, 1)
		_, three := impl.AddSurface(a, s)
		_, four := impl.DropSurface(a, s)
		isShown(t, show(s), show(one, two, three, four), "true;true;true;true;")
	}
}

func TestPeelTrace(t *testing.T) {
	minus, inf, nan, high := minusZero(), infinite(), notNumber(), just(1, -1)
	for _, c := range []struct {
		a       []float32
		surface float32
		count   int64
		want    string
	}{
		{[]float32{0.5, 0.375, -0.09375}, 0, 2, "3f000000,3f000000,;true;"},
		{[]float32{0.5, 0.375, -0.09375}, 0, 3, "3f000000,3f000000,00000000,;true;"},
		{[]float32{0.5, 0.125}, 1, 2, "3f000000,3f000000,;true;"},
		{[]float32{0.5, -0.3, 0.2, 0.1}, 0.7, 4, "3f000000,be2aaaac,3dad33c8,3e9035d0,;true;"},
		{[]float32{0.5, -0.3, 0.2, 0.1}, -1, 4, ";false;"},
		{[]float32{0.1}, 1, 1, "3dcccccd,;true;"},
		{[]float32{0, minus, 0, minus}, 1, 4, "00000000,00000000,00000000,00000000,;true;"},
		{[]float32{minus, minus, minus}, -1, 3, "80000000,80000000,80000000,;true;"},
		{[]float32{minus, minus, minus}, 0, 3, "80000000,00000000,00000000,;true;"},
		{[]float32{high}, 0, 1, "3f7fffff,;true;"}, {[]float32{-high}, 0, 1, "bf7fffff,;true;"},
		{[]float32{0.5, 0.2}, 0, 2, "3f000000,3e888889,;true;"}, {[]float32{0.5, nan}, 0, 1, "3f000000,;true;"},
		{[]float32{0.5, 0.1, -inf}, 1, 2, "3f000000,3eeeeeef,;true;"}, {[]float32{0.5, 1e30, nan}, 1, 1, "3f000000,;true;"},
		{[]float32{-high, 0, 0, 0, 0, 0, 0, 0}, 0, 7, "bf7fffff,00000000,00000000,00000000,00000000,00000000,00000000,;true;"},
		{[]float32{-high, num(0xb3ffffff)}, 0, 2, "bf7fffff,bf7fffff,;true;"},
		{[]float32{high, num(1), 0}, 1, 3, ";false;"},
	} {
		isShown(t, show(c.a, c.surface, c.count), show(impl.PeelTrace(c.a, c.surface, c.count)), c.want)
	}
}

func TestPeelSomeTraces(t *testing.T) {
	var all strings.Builder
	for k, r := range someCoefficients() {
		for _, surface := range someSurfaces() {
			echoes, _ := impl.EchoesOf(r, surface, int64(len(r)+k%7))
			all.WriteString(show(impl.PeelTrace(echoes, surface, int64(len(r)))))
			all.WriteString(show(impl.PeelTrace(echoes, -surface, int64(len(r)))))
			small, _ := impl.ScaleTrace(wavy(40, uint32(k)), 0.05)
			all.WriteString(show(impl.PeelTrace(small, surface, 24)))
		}
	}
	isShown(t, "some", digest(all.String()), "a012f32e")
}

func TestTracesThatAreNotPeeled(t *testing.T) {
	nan, inf, low := notNumber(), infinite(), -just(1, -1)
	for _, x := range noCoefficients() {
		isShown(t, "first", show(impl.PeelTrace([]float32{x}, 0, 1))+show(impl.PeelTrace([]float32{x, 0.1}, 1, 2)), noList+noList)
	}
	for _, c := range []struct {
		a       []float32
		surface float32
		count   int64
	}{
		{[]float32{0.5, 0.75}, 0, 2}, {[]float32{0.5, -0.75}, 0, 2}, {[]float32{0.5, 2}, 0, 2}, {[]float32{0.5, nan}, 0, 2}, {[]float32{0.5, inf}, 1, 2},
		{[]float32{0.5, 0.1, nan}, 1, 3}, {[]float32{0.1, 0.1, 0.1, 5}, 0, 4}, {filled(10, 0.9), 0, 10},
		// Behind layers that let nearly nothing through, too little comes down to tell more of them.
		{[]float32{low, num(0xb3ffffff), num(0x33fffffb)}, 0, 3},
		{[]float32{0.5}, 0, 0}, {[]float32{0.5}, 0, -1}, {[]float32{0.5}, 0, 2}, {[]float32{0.5, 0.1, 0.1}, 0, 4}, {make([]float32, 23), 0, 24},
		{make([]float32, 128), 0, 25}, {make([]float32, 25), 0, 25}, {make([]float32, 10), 0, math.MaxInt64}, {make([]float32, 10), 0, math.MinInt64},
	} {
		isShown(t, show(c.a, c.count), show(impl.PeelTrace(c.a, c.surface, c.count)), noList)
	}
	for _, a := range noTraces() {
		isShown(t, "no trace", show(impl.PeelTrace(a, 0, 1))+show(impl.PeelTrace(a, 0, 0)), noList+noList)
	}
}

func TestPeelJustAsManyNumbers(t *testing.T) {
	for count := 1; count <= 30; count++ {
		echoes, _ := impl.EchoesOf([]float32{0.3, -0.2, 0.1}, 0.5, int64(count))
		peeled, ok := impl.PeelTrace(echoes, 0.5, int64(count))
		if count <= 24 {
			isShown(t, "just as many", show(len(peeled), ok), show(count, true))
		} else {
			isShown(t, "too many", show(len(peeled), ok), show(0, false))
		}
		isShown(t, "one more", show(impl.PeelTrace(echoes, 0.5, int64(count+1))), noList)
	}
	peeled, ok := impl.PeelTrace(make([]float32, 128), 1, 24)
	isShown(t, "most", show(len(peeled), ok), "24;true;")
}

// What comes later does not change the layers above.
func TestPeelingIsFromAbove(t *testing.T) {
	for _, r := range someCoefficients() {
		for _, surface := range someSurfaces() {
			echoes, _ := impl.EchoesOf(r, surface, 24)
			for count := 1; count <= len(r); count++ {
				want := show(impl.PeelTrace(echoes, surface, int64(count)))
				isShown(t, "what is peeled", show(impl.PeelTrace(echoes[:count], surface, int64(count))), want)
			}
		}
	}
}

func TestAddAndDropSurface(t *testing.T) {
	minus, inf, nan := minusZero(), infinite(), notNumber()
	for _, c := range []struct {
		a         []float32
		surface   float32
		add, drop string
	}{
		{[]float32{0.5, 0.375}, 1, "3f000000,3e000000,;true;", "3f000000,3f200000,;true;"},
		{[]float32{0.5, 0.125}, 1, "3f000000,be000000,;true;", "3f000000,3ec00000,;true;"},
		{[]float32{3}, -1, "40400000,;true;", "40400000,;true;"},
		{[]float32{0.3, -0.7, 0.1, 0.9, 0.2}, 0, "3e99999a,bf333333,3dcccccd,3f666666,3e4ccccd,;true;", "3e99999a,bf333333,3dcccccd,3f666666,3e4ccccd,;true;"},
		{[]float32{0.3, -0.7, 0.1, 0.9, 0.2}, -1, "3e99999a,bf1c28f6,be960419,3fa271de,3f7ead2d,;true;", "3e99999a,bf4a3d70,3f0c0832,3e1c91d0,3eb12ad9,;true;"},
		{[]float32{0.3, -0.7, 0.1, 0.9, 0.2}, 0.3, "3e99999a,bf3a1cac,3e69e98e,3f37bfdc,3dfe528c,;true;", "3e99999a,bf2c49ba,bcc115e4,3f862bb4,3eb85ed5,;true;"},
		{[]float32{minus, minus, minus}, 1, "80000000,80000000,80000000,;true;", "00000000,00000000,00000000,;true;"},
		{[]float32{minus, minus, minus}, -1, "00000000,00000000,00000000,;true;", "80000000,80000000,80000000,;true;"},
		{[]float32{minus, minus, minus}, minus, "00000000,00000000,00000000,;true;", "80000000,80000000,80000000,;true;"},
		{[]float32{1, inf, 2}, 1, "3f800000,7f800000,ff800000,;true;", "3f800000,7f800000,7f800000,;true;"},
		{[]float32{inf, 1}, 0, "7f800000,7fc00000,;true;", "7f800000,7fc00000,;true;"},
		{[]float32{0, nan, 2}, 0.5, "00000000,7fc00000,7fc00000,;true;", "00000000,7fc00000,7fc00000,;true;"},
		{[]float32{1e20, 1e20, 1e20}, -1, "60ad78ec,7f800000,7f800000,;true;", "60ad78ec,ff800000,7fc00000,;true;"},
	} {
		isShown(t, "AddSurface "+show(c.a, c.surface), show(impl.AddSurface(c.a, c.surface)), c.add)
		isShown(t, "DropSurface "+show(c.a, c.surface), show(impl.DropSurface(c.a, c.surface)), c.drop)
	}
	var added, dropped strings.Builder
	for _, a := range someTraces() {
		for _, surface := range someSurfaces() {
			added.WriteString(show(impl.AddSurface(a, surface)))
			dropped.WriteString(show(impl.DropSurface(a, surface)))
		}
	}
	isShown(t, "added", digest(added.String()), "5dc0dc78")
	isShown(t, "dropped", digest(dropped.String()), "2f9ed0a1")
	for _, a := range noTraces() {
		isShown(t, "no trace", show(impl.AddSurface(a, 0))+show(impl.DropSurface(a, 0)), noList+noList)
	}
}
