package tests

import (
	"math"
	"strings"
	"testing"

	"loop.example/g01231/impl"
)

func TestStretchAt(t *testing.T) {
	minus, high := minusZero(), float32(math.MaxFloat32)
	for _, c := range []struct {
		tick, place, speed float32
		want               string
	}{
		{4, 3, 1, "3e800000;true;"},
		{3, 4, 1, "3f2aaaaa;true;"},
		{3, -4, 1, "3f2aaaaa;true;"},
		{1, 0, 1, "00000000;true;"},
		{1, minus, 1, "00000000;true;"},
		{2.5, 0, 7, "00000000;true;"},
		{1, 1, 1, "3ed413cc;true;"},
		{10, 1, 3, "3a119800;true;"},
		{0.001, 1, 1, "4479c007;true;"},
		{num(1), 0, 1, "bf800000;true;"},
		{num(1), 1, 1, "00000000;false;"},
		{1e-25, 0, 1, "bf800000;true;"},
		{1e-22, 0, 1, "bc1d25c0;true;"},
		{1e+19, 0, 1, "00000000;true;"},
		{1e+20, 0, 1, "00000000;false;"},
		{high, 0, 1, "00000000;false;"},
		{high, high, high, "00000000;false;"},
		{1, high, 1, "00000000;false;"},
		{1, 1e+20, 1, "00000000;false;"},
		{1, 1, num(1), "00000000;false;"},
		{1, 1e-30, high, "00000000;true;"},
		{1, 1e+30, 1e-30, "00000000;false;"},
		{1e-20, 1e+18, 1, "7e967699;true;"},
		{1e-30, 1e+10, 1, "00000000;false;"},
		{63, 17, 0.3, "3eb0a4f4;true;"},
		{1, 1e+19, 1, "5f0ac723;true;"},
		{1, -1e+19, 2, "5e8ac723;true;"},
	} {
		isShown(t, show(c.tick, c.place, c.speed), show(impl.StretchAt(c.tick, c.place, c.speed)), c.want)
	}
	var all strings.Builder
	for _, tick := range append(wavy(20, 4), someNumbers()...) {
		for _, place := range append(wavy(10, 5), someNumbers()...) {
			for _, speed := range append(someSpeeds(), noSpeeds()...) {
				all.WriteString(show(impl.StretchAt(tick, place, speed)))
			}
		}
	}
	isShown(t, "some", digest(all.String()), "680b53e9")
}

func TestTicksThatAreNotStretched(t *testing.T) {
	for _, tick := range []float32{0, minusZero(), -num(1), -1, infinite(), -infinite(), notNumber()} {
		isShown(t, show(tick), show(impl.StretchAt(tick, 1, 1))+show(impl.StretchAt(tick, 0, 1)), noNumber+noNumber)
	}
}

func TestMuteGather(t *testing.T) {
	minus, inf, nan, high := minusZero(), infinite(), notNumber(), float32(math.MaxFloat32)
	for _, c := range []struct {
		places []float32
		trace  []float32
		speed  float32
		want   string
	}{
		{[]float32{2}, []float32{1, 2, 3, 4}, 1, "4:40000000,:00000000,00000000,40400000,40800000,/;true;"},
		{[]float32{-2}, []float32{1, 2, 3, 4}, 1, "4:c0000000,:00000000,00000000,40400000,40800000,/;true;"},
		{[]float32{0, minus}, []float32{1, 2, 3, 4}, 1, "4:00000000,80000000,:3f800000,40000000,40400000,40800000,/3f800000,40000000,40400000,40800000,/;true;"},
		{[]float32{2.0001, 1.9999, -2.0001}, []float32{1, 2, 3, 4}, 1, "4:400001a3,3ffffcb9,c00001a3,:00000000,00000000,00000000,40800000,/00000000,00000000,40400000,40800000,/00000000,00000000,00000000,40800000,/;true;"},
		{[]float32{3, 4, 1e+30}, []float32{1, 2, 3, 4}, 1, "4:40400000,40800000,7149f2ca,:00000000,00000000,00000000,40800000,/00000000,00000000,00000000,00000000,/00000000,00000000,00000000,00000000,/;true;"},
		{[]float32{num(1), -num(1), 1e-30}, []float32{1, 2, 3, 4}, 1, "4:00000001,80000001,0da24260,:00000000,40000000,40400000,40800000,/00000000,40000000,40400000,40800000,/00000000,40000000,40400000,40800000,/;true;"},
		{[]float32{1e-30, -1e-10}, []float32{1, 2, 3, 4}, high, "4:0da24260,aedbe6ff,:3f800000,40000000,40400000,40800000,/3f800000,40000000,40400000,40800000,/;true;"},
		{[]float32{1, -1}, []float32{1, 2, 3, 4}, num(1), "4:3f800000,bf800000,:00000000,00000000,00000000,00000000,/00000000,00000000,00000000,00000000,/;true;"},
		{[]float32{1e+30}, []float32{1, 2, 3, 4}, 1e-30, "4:7149f2ca,:00000000,00000000,00000000,00000000,/;true;"},
		{[]float32{1, 1.5}, []float32{nan, inf, minus, -inf}, 1, "4:3f800000,3fc00000,:00000000,7f800000,80000000,ff800000,/00000000,00000000,80000000,ff800000,/;true;"},
		{[]float32{0}, []float32{nan, inf, minus, -inf}, 1, "4:00000000,:7fc00000,7f800000,80000000,ff800000,/;true;"},
		{[]float32{5, -5, 6, 7}, []float32{minus, -1, nan}, 2.5, "3:40a00000,c0a00000,40c00000,40e00000,:00000000,00000000,7fc00000,/00000000,00000000,7fc00000,/00000000,00000000,00000000,/00000000,00000000,00000000,/;true;"},
		{[]float32{high, -high}, []float32{1, 2}, high, "2:7f7fffff,ff7fffff,:00000000,40000000,/00000000,40000000,/;true;"},
		{[]float32{3}, []float32{1}, 2, "1:40400000,:00000000,/;true;"},
		{[]float32{0}, []float32{1}, 2, "1:00000000,:3f800000,/;true;"},
	} {
		isShown(t, show(c.places, c.trace, c.speed), show(impl.MuteGather(sameTraces(c.places, c.trace), c.speed)), c.want)
	}
	var all strings.Builder
	for _, g := range someGathers() {
		for _, speed := range someSpeeds() {
			all.WriteString(show(impl.MuteGather(g, speed)))
		}
	}
	isShown(t, "some", digest(all.String()), "e89401a3")
}

func TestMuteStretch(t *testing.T) {
	minus, inf, nan, high := minusZero(), infinite(), notNumber(), float32(math.MaxFloat32)
	for _, c := range []struct {
		places      []float32
		trace       []float32
		speed, most float32
		want        string
	}{
		{[]float32{3}, []float32{1, 2, 3, 4}, 1, 0.5, "4:40400000,:00000000,00000000,00000000,40800000,/;true;"},
		{[]float32{3, -3, 0, minus}, []float32{1, 2, 3, 4}, 1, 0.5, "4:40400000,c0400000,00000000,80000000,:00000000,00000000,00000000,40800000,/00000000,00000000,00000000,40800000,/3f800000,40000000,40400000,40800000,/3f800000,40000000,40400000,40800000,/;true;"},
		{[]float32{1}, []float32{1, 2, 3, 4}, 1, 0.41421354, "4:3f800000,:00000000,40000000,40400000,40800000,/;true;"},
		{[]float32{1}, []float32{1, 2, 3, 4}, 1, 0.41421366, "4:3f800000,:00000000,40000000,40400000,40800000,/;true;"},
		{[]float32{1}, []float32{1, 2, 3, 4}, 1, 0.4142135, "4:3f800000,:00000000,00000000,40400000,40800000,/;true;"},
		{[]float32{1, 0}, []float32{1, 2, 3, 4}, 1, 0, "4:3f800000,00000000,:00000000,00000000,00000000,00000000,/3f800000,40000000,40400000,40800000,/;true;"},
		{[]float32{1, 0, minus}, []float32{1, 2, 3, 4}, 1, minus, "4:3f800000,00000000,80000000,:00000000,00000000,00000000,00000000,/3f800000,40000000,40400000,40800000,/3f800000,40000000,40400000,40800000,/;true;"},
		{[]float32{1, 0, minus}, []float32{1, 2, 3, 4}, 1, -0.1, "4:3f800000,00000000,80000000,:00000000,00000000,00000000,00000000,/3f800000,00000000,00000000,00000000,/3f800000,00000000,00000000,00000000,/;true;"},
		{[]float32{1, 0}, []float32{1, 2, 3, 4}, 1, nan, "4:3f800000,00000000,:00000000,40000000,40400000,40800000,/3f800000,40000000,40400000,40800000,/;true;"},
		{[]float32{1, 0}, []float32{1, 2, 3, 4}, 1, inf, "4:3f800000,00000000,:00000000,40000000,40400000,40800000,/3f800000,40000000,40400000,40800000,/;true;"},
		{[]float32{1, 0}, []float32{1, 2, 3, 4}, 1, -inf, "4:3f800000,00000000,:00000000,00000000,00000000,00000000,/3f800000,00000000,00000000,00000000,/;true;"},
		{[]float32{1, 0}, []float32{1, 2, 3, 4}, 1, 1e+10, "4:3f800000,00000000,:00000000,40000000,40400000,40800000,/3f800000,40000000,40400000,40800000,/;true;"},
		{[]float32{1e+30, 0}, []float32{1, 2}, 1, 1, "0::;false;"},
		{[]float32{0, 1e+30}, []float32{1, 2}, 1, inf, "0::;false;"},
		{[]float32{1e+30, 0}, []float32{7}, 1, 1, "1:7149f2ca,00000000,:00000000,/40e00000,/;true;"},
		{[]float32{1, 0, minus}, []float32{7}, num(1), 1, "1:3f800000,00000000,80000000,:00000000,/40e00000,/40e00000,/;true;"},
		{[]float32{1, 0}, []float32{7, 8}, num(1), 1, "0::;false;"},
		{[]float32{0, 0}, []float32{7, 8}, num(1), 1, "2:00000000,00000000,:40e00000,41000000,/40e00000,41000000,/;true;"},
		{[]float32{1e+18}, []float32{7, 8}, 1, 1, "2:5d5e0b6b,:00000000,00000000,/;true;"},
		{[]float32{1e+18}, []float32{7, 8}, 1, 1e+19, "2:5d5e0b6b,:00000000,41000000,/;true;"},
		{[]float32{1e-30}, []float32{7, 8}, high, 0, "2:0da24260,:00000000,41000000,/;true;"},
		{[]float32{num(1)}, []float32{7, 8}, 1, 0, "2:00000001,:00000000,41000000,/;true;"},
		{[]float32{2, 0}, []float32{nan, inf, minus, -inf}, 1, 0.3, "4:40000000,00000000,:00000000,00000000,00000000,ff800000,/7fc00000,7f800000,80000000,ff800000,/;true;"},
		{[]float32{1}, []float32{minus, minus, minus}, 1, 0.2, "3:3f800000,:00000000,00000000,80000000,/;true;"},
		{[]float32{2.2, 1.3}, []float32{1, 2, 3, 4, 5, 6}, 0.7, 0.13, "6:400ccccd,3fa66666,:00000000,00000000,00000000,00000000,00000000,00000000,/00000000,00000000,00000000,00000000,40a00000,40c00000,/;true;"},
	} {
		got := show(impl.MuteStretch(sameTraces(c.places, c.trace), c.speed, c.most))
		isShown(t, show(c.places, c.trace, c.speed, c.most), got, c.want)
	}
	var all strings.Builder
	for k, g := range someGathers() {
		for _, speed := range someSpeeds() {
			for _, most := range append(wavy(3, uint32(k)), 0, minusZero(), 1e10, infinite(), -infinite(), notNumber()) {
				all.WriteString(show(impl.MuteStretch(g, speed, most)))
			}
		}
	}
	isShown(t, "some", digest(all.String()), "174e6f1f")
}

// What MuteStretch mutes is told by StretchAt, number by number.
func TestMutesAreStretches(t *testing.T) {
	for _, g := range plainGathers() {
		for _, most := range []float32{0.01, 0.3, 2} {
			muted, ok := impl.MuteStretch(g, 2, most)
			isShown(t, "mutes", show(ok), "true;")
			for i, trace := range g.Traces {
				for k, x := range trace {
					stretch, _ := impl.StretchAt(float32(k), g.Places[i], 2)
					if k == 0 && g.Places[i] != 0 || k > 0 && stretch > most {
						x = 0
					}
					isNumber(t, show(i, k), muted.Traces[i][k], x)
				}
			}
		}
	}
}
