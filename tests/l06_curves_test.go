package tests

import (
	"math"
	"strings"
	"testing"

	"loop.example/g01231/impl"
)

func TestSectionsAlongCurves(t *testing.T) {
	minus, inf, nan, high := minusZero(), infinite(), notNumber(), float32(math.MaxFloat32)
	for _, c := range []struct {
		s           impl.Section
		speed       float32
		there, back string
	}{
		{sectionOf(1, 1, 3), 1, "1x1:40400000,;true;", "1x1:40400000,;true;"},
		{sectionOf(1, 1, minus), 1, "1x1:00000000,;true;", "1x1:00000000,;true;"},
		{sectionOf(1, 1, nan), 2, "1x1:7fc00000,;true;", "1x1:7fc00000,;true;"},
		{sectionOf(1, 1, inf), num(1), "1x1:7f800000,;true;", "1x1:7f800000,;true;"},
		{sectionOf(1, 2, 3, 5), 1, "1x2:40400000,40a00000,;true;", "1x2:40400000,40a00000,;true;"},
		{sectionOf(1, 2, inf, 5), 1, "1x2:7f800000,7fc00000,;true;", "1x2:7f800000,40a00000,;true;"},
		{sectionOf(1, 2, 5, inf), 1, "1x2:40a00000,7f800000,;true;", "1x2:7fc00000,7f800000,;true;"},
		{sectionOf(1, 2, nan, 5), 1, "1x2:7fc00000,7fc00000,;true;", "1x2:7fc00000,40a00000,;true;"},
		{sectionOf(1, 2, 5, nan), 1, "1x2:40a00000,7fc00000,;true;", "1x2:7fc00000,7fc00000,;true;"},
		{sectionOf(1, 2, minus, minus), 7, "1x2:00000000,00000000,;true;", "1x2:00000000,00000000,;true;"},
		{sectionOf(1, 5, 1, 2, 3, 4, 5), high, "1x5:3f800000,40000000,40400000,40800000,40a00000,;true;", "1x5:3f800000,40000000,40400000,40800000,40a00000,;true;"},
		{sectionOf(1, 5, 1, 2, 3, 4, 5), num(1), "1x5:3f800000,40000000,40400000,40800000,40a00000,;true;", "1x5:3f800000,40000000,40400000,40800000,40a00000,;true;"},
		{sectionOf(2, 1, 3, 5), 1, "2x1:40400000,40a00000,;true;", "2x1:40400000,40a00000,;true;"},
		{sectionOf(2, 1, 3, 5), 2, "2x1:40b00000,40d00000,;true;", "2x1:40b00000,40d00000,;true;"},
		{sectionOf(2, 1, 3, 5), 1.0000001, "2x1:40400002,40a00001,;true;", "2x1:40400002,40a00001,;true;"},
		{sectionOf(2, 1, 3, 5), 0.99999994, "2x1:40400000,40a00000,;true;", "2x1:40400000,40a00000,;true;"},
		{sectionOf(2, 1, 3, 5), high, "2x1:41000000,41000000,;true;", "2x1:41000000,41000000,;true;"},
		{sectionOf(2, 1, 3, 5), 1e20, "2x1:41000000,41000000,;true;", "2x1:41000000,41000000,;true;"},
		{sectionOf(2, 1, 3, 5), 1e22, "2x1:41000000,41000000,;true;", "2x1:41000000,41000000,;true;"},
		{sectionOf(2, 1, 3, 5), 1e23, "2x1:41000000,41000000,;true;", "2x1:41000000,41000000,;true;"},
		{sectionOf(2, 1, 3, 5), 1e-20, "2x1:40400000,40a00000,;true;", "2x1:40400000,40a00000,;true;"},
		{sectionOf(2, 1, 3, 5), 1e-10, "2x1:40400000,40a00000,;true;", "2x1:40400000,40a00000,;true;"},
		{sectionOf(2, 1, 3, 5), num(1), "2x1:40400000,40a00000,;true;", "2x1:40400000,40a00000,;true;"},
		{sectionOf(2, 1, inf, 1), 1, "2x1:7f800000,3f800000,;true;", "2x1:7f800000,3f800000,;true;"},
		{sectionOf(2, 1, inf, 1), 2, "2x1:7f800000,7f800000,;true;", "2x1:7f800000,7f800000,;true;"},
		{sectionOf(2, 1, nan, 1), 1, "2x1:7fc00000,3f800000,;true;", "2x1:7fc00000,3f800000,;true;"},
		{sectionOf(2, 1, nan, 1), 2, "2x1:7fc00000,7fc00000,;true;", "2x1:7fc00000,7fc00000,;true;"},
		{sectionOf(2, 2, 1, 2, 3, 4), 1, "2x2:3f800000,40000000,40eafb0d,40d83c4a,;true;", "2x2:40a00000,40a00000,40aafb0d,40b83c4a,;true;"},
		{sectionOf(2, 2, 1, 2, 3, 4), 0.5, "2x2:3f800000,40000000,40400000,40800000,;true;", "2x2:3f800000,40000000,40400000,40800000,;true;"},
		{sectionOf(2, 2, 1, 2, 3, 4), 3, "2x2:40155555,402aaaaa,40ee68d4,40e5794a,;true;", "2x2:406aaaaa,406aaaaa,40d9137f,40dace9f,;true;"},
		{sectionOf(2, 2, 1, 2, 3, 4), 0.7, "2x2:3f800000,40000000,40a55da8,40aae1ac,;true;", "2x2:40524924,406db6db,4080cb5f,40989887,;true;"},
		{sectionOf(2, 2, 0.1, -0.2, 0.3, -0.4), 1.7, "2x2:3c90908c,be22a2a2,be1d42a4,bdb6beac,;true;", "2x2:be5edede,3c909088,bd1328b0,be179b92,;true;"},
		{sectionOf(2, 2, num(1), num(2), num(3), num(5)), 1.7, "2x2:00000002,00000002,00000008,00000009,;true;", "2x2:00000005,00000004,00000007,00000008,;true;"},
		{sectionOf(2, 2, high, high, high, high), 1.7, "2x2:7f800000,7f800000,7f800000,7f800000,;true;", "2x2:7f800000,7f800000,7f800000,7f800000,;true;"},
		{sectionOf(2, 2, 1e8, 1, -1e8, 1), 1.7, "2x2:4cbebc20,4c1d1367,ccbebc20,cbbff166,;true;", "2x2:4cbebc20,cb86a2e4,ccbebc20,cca02ec6,;true;"},
		{sectionOf(2, 3, 1, 2, 4, 8, 16, 32), 1, "2x3:3f800000,40000000,412afb0d,41357d86,422f09c3,423784e2,;true;", "2x3:41100000,40c00000,41af876c,4187c3b6,4221c886,4230e443,;true;"},
		{sectionOf(3, 2, 1, 2, 4, 8, 16, 32), 1, "3x2:3f800000,40000000,40800000,419afb0d,4231b9d0,422d7d86,;true;", "3x2:41880000,42280000,41a00000,418afb0d,421db9d0,42257d86,;true;"},
		{sectionOf(3, 2, 1, 2, 4, 8, 16, 32), 2, "3x2:40000000,40900000,40a00000,42376d2e,42571d54,425330e5,;true;", "3x2:42280000,41c40000,41a80000,42236d2e,424d1d54,424b30e5,;true;"},
		{sectionOf(3, 3, 1, 2, 4, 8, 16, 32, 64, 128, 256), 0.5, "3x3:3f800000,40000000,40800000,41000000,41800000,42000000,42c85e56,435a75eb,43921795,;true;", "3x3:43010000,43a10000,43040000,42d3910c,43823aa8,4301c886,42abec34,4336e741,438afb0d,;true;"},
		{sectionOf(3, 3, 1, 2, 4, 8, 16, 32, 64, 128, 256), 1.5, "3x3:3fd55555,406aaaaa,40955555,420dbf8c,424d098a,4245bf8c,43b259c0,43d2ba37,43d09b1a,;true;", "3x3:42ee0001,41f2aaab,42280000,4363f0cb,42e10946,42e7e194,43a56707,43ceb0be,43cc2861,;true;"},
		{sectionOf(3, 3, 0, minus, 0, inf, 1, nan, -1, minus, -inf), 1, "3x3:00000000,00000000,00000000,7f800000,7fc00000,7fc00000,7fc00000,7fc00000,7fc00000,;true;", "3x3:7fc00000,7fc00000,7fc00000,7fc00000,7fc00000,7fc00000,ff800000,ff800000,ff800000,;true;"},
		{sectionOf(3, 3, 0, minus, 0, inf, 1, nan, -1, minus, -inf), 2.5, "3x3:00000000,00000000,00000000,7fc00000,7fc00000,7fc00000,7fc00000,7fc00000,7fc00000,;true;", "3x3:7fc00000,7fc00000,7fc00000,7fc00000,7fc00000,7fc00000,ff800000,ff800000,ff800000,;true;"},
		{pulseSection(4, 6, 16), 1, "4x6:00000000,00000000,00000000,00000000,00000000,00000000,00000000,00000000,00000000,00000000,00000000,00000000,00000000,00000000,00000000,00000000,3f800000,3f607c28,3f072218,00000000,00000000,3dfc1ec0,3ef1bbd0,3f800000,;true;", "4x6:00000000,00000000,00000000,00000000,00000000,00000000,00000000,3e262c20,00000000,00000000,00000000,3f1b0568,00000000,3e262c20,3f1b0568,3f41e250,3f800000,3f607c28,3f072218,00000000,00000000,00000000,00000000,00000000,;true;"},
		{pulseSection(4, 6, 19), 1, "4x6:00000000,00000000,00000000,00000000,00000000,00000000,00000000,00000000,00000000,00000000,00000000,00000000,00000000,00000000,00000000,00000000,00000000,3f072218,3f607c28,3f800000,3f800000,3ef1bbd0,3dfc1ec0,00000000,;true;", "4x6:00000000,00000000,00000000,00000000,3e262c20,00000000,00000000,00000000,3f1b0568,00000000,00000000,00000000,3f41e250,3f1b0568,3e262c20,00000000,00000000,3f072218,3f607c28,3f800000,00000000,00000000,00000000,00000000,;true;"},
		{pulseSection(4, 6, 12), 0.75, "4x6:00000000,00000000,00000000,00000000,00000000,00000000,00000000,00000000,00000000,00000000,00000000,00000000,3f800000,3f37906c,00000000,00000000,00000000,3e90df28,3f7c7358,00000000,00000000,00000000,3c632a00,3f800000,;true;", "4x6:00000000,00000000,3f2aaaac,00000000,00000000,00000000,3f59169c,00000000,00000000,3eceb1e0,3f2aaaa8,00000000,3f800000,3f37906c,00000000,00000000,00000000,00000000,00000000,00000000,00000000,00000000,00000000,00000000,;true;"},
		{pulseSection(4, 5, 16), 1, "4x5:00000000,00000000,00000000,00000000,00000000,00000000,00000000,00000000,00000000,00000000,00000000,00000000,00000000,00000000,00000000,00000000,3f800000,3f607c28,3f072218,00000000,;true;", "4x5:00000000,00000000,00000000,00000000,00000000,00000000,00000000,3e262c20,00000000,00000000,00000000,3f1b0568,00000000,3e262c20,3f1b0568,3f41e250,3f800000,3f607c28,3f072218,00000000,;true;"},
		{pulseSection(5, 4, 12), 4, "5x4:00000000,00000000,00000000,00000000,00000000,00000000,00000000,00000000,00000000,00000000,3f703e14,3f7c03f8,3f800000,3f7c03f8,3f703e14,3d7c1ec0,3c7f0200,00000000,3c7f0200,3d7c1ec0,;true;", "5x4:00000000,00000000,00000000,00000000,00000000,3df1bbd0,3cfc1ec0,00000000,3cfc1ec0,3df1bbd0,3f703e14,3f7c03f8,3f800000,3f7c03f8,3f703e14,00000000,00000000,00000000,00000000,00000000,;true;"},
		{sectionOf(4, 1, 1, 2, 3, 4), 3, "4x1:40555555,40c00000,40eaaaaa,40d55555,;true;", "4x1:40555555,40c00000,40eaaaaa,40d55555,;true;"},
		{sectionOf(4, 1, 1, 2, 3, 4), 3.0000002, "4x1:40555557,40c00001,40eaaaac,40d55556,;true;", "4x1:40555557,40c00001,40eaaaac,40d55556,;true;"},
		{sectionOf(1, 1), 1, "0x0:;false;", "0x0:;false;"},
		{sectionOf(17, 1, filled(17, 1)...), 1, "0x0:;false;", "0x0:;false;"},
		{sectionBy(3, 3, 5), 0.3, "3x3:3e688ce8,bf4aee63,bf13a92a,3fc64f77,bf1e7d56,3f753f7e,3e3020c8,3f3a71de,3fcf34d7,;true;", "3x3:3e688ce8,bf4aee63,bf13a92a,3fc64f77,bf1e7d56,3f753f7e,3e3020c8,3f3a71de,3fcf34d7,;true;"},
		{sectionBy(3, 3, 5), 0.9, "3x3:3e688ce8,bf4aee63,bf13a92a,3f082d14,3eac5a2a,bd7325c0,3eceb4d5,404d24ce,4032ce86,;true;", "3x3:3f8225c7,3fd14752,bf6993c4,40208c76,3fc44e63,3f8d1f4e,3f35111b,4000394b,4008e85c,;true;"},
		{sectionBy(3, 3, 5), 1.1, "3x3:3e1ec1da,bf5311d6,bf261bee,3ea501f0,3f30671c,bdfb9be0,3fb79a28,40430d2a,4069fca4,;true;", "3x3:3f8ba1b8,3fba3945,bf4a0d2c,4039ab64,3fd174da,3f78b79e,3f9e7016,400aa74a,40104e5c,;true;"},
	} {
		isShown(t, show("there", c.s, c.speed), show(impl.SpreadSection(c.s, c.speed)), c.there)
		isShown(t, show("back", c.s, c.speed), show(impl.GatherSection(c.s, c.speed)), c.back)
	}
	var there, back strings.Builder
	for _, s := range someSections() {
		for _, speed := range someSpeeds() {
			there.WriteString(show(impl.SpreadSection(s, speed)))
			back.WriteString(show(impl.GatherSection(s, speed)))
		}
	}
	isShown(t, "some", digest(there.String())+digest(back.String()), "f5b71130bac107b4")
}

// Each cell alone tells all of its shares, in both directions.
func TestSharesOfEachCell(t *testing.T) {
	for _, c := range []struct {
		wide, deep int64
		speed      float32
		want       string
	}{
		{1, 1, 1, "392d5ba7"},
		{1, 16, 3, "3e721625"},
		{16, 1, 4, "dc1db799"},
		{2, 2, 1, "b80b2719"},
		{3, 4, 1, "2ed1c0b1"},
		{4, 3, 0.7, "3827dcf9"},
		{5, 5, 2.2, "320f6b73"},
		{6, 2, 0.3, "609bdd85"},
		{16, 3, 5, "331df165"},
		{3, 16, 0.2, "1d1ec2c5"},
	} {
		var all strings.Builder
		for cell := range c.wide * c.deep {
			all.WriteString(show(impl.SpreadSection(pulseSection(c.wide, c.deep, cell), c.speed)))
			all.WriteString(show(impl.GatherSection(pulseSection(c.wide, c.deep, cell), c.speed)))
		}
		isShown(t, show(c.wide, c.deep, c.speed), digest(all.String()), c.want)
	}
}

func TestSpeedsOfCurves(t *testing.T) {
	for _, s := range someSections() {
		for _, speed := range noSpeeds() {
			isShown(t, show(s, speed), show(impl.SpreadSection(s, speed)), noSection)
			isShown(t, show(s, speed), show(impl.GatherSection(s, speed)), noSection)
			isShown(t, show(s, speed), show(impl.FitSection(s, speed, 0))+show(impl.FitSection(s, speed, 3)), noFit+noFit)
		}
		for _, speed := range someSpeeds() {
			_, spread := impl.SpreadSection(s, speed)
			_, gather := impl.GatherSection(s, speed)
			_, _, fit := impl.FitSection(s, speed, 0)
			isShown(t, show(s, speed), show(spread, gather, fit), "true;true;true;")
		}
	}
}
