package tests

import (
	"math"
	"strings"
	"testing"

	"loop.example/g01231/impl"
)

func TestFitSection(t *testing.T) {
	minus, inf, nan, high := minusZero(), infinite(), notNumber(), float32(math.MaxFloat32)
	for _, c := range []struct {
		data   impl.Section
		speed  float32
		rounds int64
		want   string
	}{
		{sectionOf(1, 1, 3), 1, 3, "1x1:40400000,;41100000,00000000,;true;"},
		{sectionOf(1, 1, 3), 1, 0, "1x1:00000000,;41100000,;true;"},
		{sectionOf(1, 1, 3), 1, 1, "1x1:40400000,;41100000,00000000,;true;"},
		{sectionOf(1, 1, 0), 1, 5, "1x1:00000000,;00000000,;true;"},
		{sectionOf(1, 1, minus), 1, 5, "1x1:00000000,;00000000,;true;"},
		{sectionOf(1, 1, minus), 1, 0, "1x1:00000000,;00000000,;true;"},
		{sectionOf(1, 1, inf), 1, 5, "1x1:7fc00000,;7f800000,7fc00000,;true;"},
		{sectionOf(1, 1, nan), 1, 5, "1x1:00000000,;7fc00000,;true;"},
		{sectionOf(1, 1, nan), 1, 0, "1x1:00000000,;7fc00000,;true;"},
		{sectionOf(2, 2, 0, 0, 0, 0), 1, 20, "2x2:00000000,00000000,00000000,00000000,;00000000,;true;"},
		{sectionOf(2, 2, minus, minus, minus, minus), 1, 20, "2x2:00000000,00000000,00000000,00000000,;00000000,;true;"},
		{sectionOf(2, 2, minus, 0, 0, minus), 1, 0, "2x2:00000000,00000000,00000000,00000000,;00000000,;true;"},
		{sectionOf(2, 1, 3, 5), 2, 0, "2x1:00000000,00000000,;42080000,;true;"},
		{sectionOf(2, 1, 3, 5), 2, 1, "2x1:401d68cf,403a0780,;42080000,3fca1d9a,;true;"},
		{sectionOf(2, 1, 3, 5), 2, 2, "2x1:3f2aaaa4,40955554,;42080000,3fca1d9a,2b110000,;true;"},
		{sectionOf(2, 1, 3, 5), 2, 3, "2x1:3f2aaaaa,40955555,;42080000,3fca1d9a,2b110000,26ca4476,;true;"},
		{sectionOf(2, 1, 3, 5), 1e30, 4, "2x1:40000000,40000000,;42080000,40000000,;true;"},
		{sectionOf(2, 1, 3, 5), num(1), 4, "2x1:40400000,40a00000,;42080000,00000000,;true;"},
		{sectionOf(2, 2, 1, 2, 3, 4), 1, 1, "2x2:3fa5de4f,3fa5de4f,3fb14076,3fbefe28,;41f00000,3f869ea0,;true;"},
		{sectionOf(2, 2, 1, 2, 3, 4), 1, 2, "2x2:3fcf5bb3,3fdfee49,3ef23304,3fddffd3,;41f00000,3f869ea0,3f23ccf3,;true;"},
		{sectionOf(2, 2, 1, 2, 3, 4), 1, 3, "2x2:3f9cd38a,4006183b,be5f0e40,401df25e,;41f00000,3f869ea0,3f23ccf3,3eb4b3b0,;true;"},
		{sectionOf(2, 2, 1, 2, 3, 4), 1, 4, "2x2:3f800050,40000028,bf939577,406b3a3c,;41f00000,3f869ea0,3f23ccf3,3eb4b3b0,30e8584a,;true;"},
		{sectionOf(2, 2, 1, 2, 3, 4), 1.7, 20, "2x2:3e599999,3ff4cccc,c095c4cb,40f9c74f,;41f00000,3f7fd310,3f77f57e,3e404bc1,34f978c4,2b029627,290cd386,28f6e0b2,26b9fca8,18e6b2b4,12cd4acf,12a254e7,129c8895,06a35c99,01903320,0000e75e,0000c300,00000001,00000000,;true;"},
		{sectionOf(2, 2, 1, 2, 3, 4), 0.3, 20, "2x2:3f800000,40000000,40400000,40800000,;41f00000,00000000,;true;"},
		{sectionOf(1, 4, 1, 2, 3, 4), 1, 20, "1x4:3f800000,40000000,40400000,40800000,;41f00000,00000000,;true;"},
		{sectionOf(4, 1, 1, 2, 3, 4), 1, 20, "4x1:3f800000,40000000,40400000,40800000,;41f00000,00000000,;true;"},
		{sectionOf(4, 1, 1, 2, 3, 4), 5, 6, "4x1:bf36db72,35bbb960,34bd5340,40892491,;41f00000,4093fd9e,3e059cc1,3c078d05,3c032627,31034265,2c1f2c5b,;true;"},
		{sectionOf(4, 1, 1, 2, 3, 4), 1e30, 6, "4x1:3f200000,3f200000,3f200000,3f200000,;41f00000,40a00000,;true;"},
		{sectionOf(2, 2, 1e18, 2, 3, 4), 1.7, 3, "2x2:5d2f9c42,db983892,db877642,dc035ac7,;7b4097ce,7aaa3307,7a654a53,7a3c48a8,;true;"},
		{sectionOf(2, 2, 1e25, 2, 3, 4), 1.7, 3, "2x2:7fc00000,7fc00000,7fc00000,7fc00000,;7f800000,7fc00000,;true;"},
		{sectionOf(2, 2, 1e-25, 2e-25, 3e-25, 4e-25), 1.7, 3, "2x2:00000000,00000000,00000000,00000000,;00000000,;true;"},
		{sectionOf(2, 2, 1, 2, inf, 4), 1.7, 3, "2x2:00000000,00000000,00000000,00000000,;7f800000,;true;"},
		{sectionOf(2, 2, 1, nan, 3, 4), 1.7, 3, "2x2:00000000,00000000,00000000,00000000,;7fc00000,;true;"},
		{sectionOf(2, 2, 1, inf, 3, 4), 1.7, 0, "2x2:00000000,00000000,00000000,00000000,;7f800000,;true;"},
		{sectionOf(2, 2, high, high, high, high), 1.7, 3, "2x2:00000000,00000000,00000000,00000000,;7f800000,;true;"},
		{sectionBy(3, 3, 5), 0.9, 5, "3x3:be53599e,bd02ccd2,bf806577,3f6d6bea,3f01ca8e,3eae53b3,bcd26a5f,3ea7ca24,3ef886fe,;40fca01b,4079904d,40195d54,40068ee7,400574a0,40057325,;true;"},
		{sectionBy(3, 3, 5), 0.9, 20, "3x3:3e688f58,bf4aef5a,bf13a87b,40939ed2,c09572cb,4080b2e4,c4650d40,44a29f1d,c464edaa,;40fca01b,4079904d,40195d54,40068ee7,400574a0,40057325,4005713c,40057105,400570f1,4005708c,4002016e,3fe07b2d,3ea53558,3a11a131,38570688,369513b3,367b756d,35bbe2be,350fccdb,333583d6,304491bb,;true;"},
		{sectionOf(2, 2, 1, 2, 3, 4), 0, 3, "0x0:;;false;"},
		{sectionOf(2, 2, 1, 2, 3, 4), 1, 21, "0x0:;;false;"},
		{sectionOf(2, 2, 1, 2, 3, 4), 1, -1, "0x0:;;false;"},
		{sectionOf(2, 2, 1, 2, 3), 1, 3, "0x0:;;false;"},
	} {
		isShown(t, show(c.data, c.speed, c.rounds), show(impl.FitSection(c.data, c.speed, c.rounds)), c.want)
	}
	var all strings.Builder
	for _, s := range append(someSections()[:8], oddSection(), zeroSection()) {
		for _, speed := range someSpeeds() {
			for _, rounds := range []int64{0, 1, 2, 7} {
				all.WriteString(show(impl.FitSection(s, speed, rounds)))
			}
		}
	}
	isShown(t, "some", digest(all.String()), "cf9bc526")
}

// Some fits of many cells or many rounds.
func TestLongFits(t *testing.T) {
	for _, c := range []struct {
		wide, deep int64
		speed      float32
		rounds     int64
		want       string
	}{
		{5, 5, 1, 20, "4f8ec7aa"},
		{5, 5, 0.4, 20, "50bc0b22"},
		{5, 5, 3, 19, "313ce5b6"},
		{7, 4, 2, 20, "4c02febe"},
		{4, 7, 0.8, 13, "2fed1ef9"},
		{1, 16, 1, 20, "31a872d7"},
		{16, 1, 9, 20, "2eeb7be1"},
		{16, 16, 1, 2, "a6fa8d28"},
		{16, 16, 2.5, 20, "6224b43b"},
	} {
		data := sectionBy(c.wide, c.deep, 7)
		isShown(t, show(c.wide, c.deep, c.speed, c.rounds), digest(show(impl.FitSection(data, c.speed, c.rounds))), c.want)
	}
}

// The rounds end where a step leads nowhere, or where nothing is left: the power
// of what is sent, or the slope, is 0 or a not-a-number then.
func TestFitsThatEnd(t *testing.T) {
	inf, nan := infinite(), notNumber()
	for _, c := range []struct {
		why   string
		data  impl.Section
		speed float32
		whole int
		want  string
	}{
		{"the first power is 0", sectionOf(1, 2, 0, 1e-23), 0.7, 0, "1x2:00000000,00000000,;00000000,;true;"},
		{"the first power is 0", sectionOf(2, 1, 2e25, -2e25), 1e20, 0, "2x1:00000000,00000000,;7f800000,;true;"},
		{"the first power is 0", sectionOf(3, 2, 0, 0, 0, 0, 0, 0), 1, 0, "3x2:00000000,00000000,00000000,00000000,00000000,00000000,;00000000,;true;"},
		{"the first power is a not-a-number", sectionOf(1, 2, 1.5e-22, nan), 0.9, 0, "1x2:00000000,00000000,;7fc00000,;true;"},
		{"the first slope is a not-a-number", sectionOf(2, 1, inf, 1), 3, 1, "2x1:7fc00000,7fc00000,;7f800000,7fc00000,;true;"},
		{"the first power is a not-a-number", sectionOf(2, 1, inf, -inf), 3, 0, "2x1:00000000,00000000,;7f800000,;true;"},
		{"the second power is 0", sectionOf(3, 1, -2e-22, -1e-22, -2e-22), 2, 1, "3x1:9ad04b6f,9af9f41f,9ad04b6f,;00000040,0000000b,;true;"},
		{"the second power is 0", sectionOf(2, 2, 3e-23, 0, -6e-23, 6e-23), 0.7, 1, "2x2:1a71c901,9a00f3bc,9a27d95c,1a27d95c,;00000006,00000001,;true;"},
		{"the third power is 0", sectionOf(3, 1, -1e-22, 1e-22, 3e-23), 2, 2, "3x1:9ac36a0c,1a57b4f9,1a88de21,;0000000f,00000009,00000006,;true;"},
		{"the fourth power is 0", sectionOf(2, 2, 0, -1.5e-22, 1.5e-21, 1e-23), 2, 3, "2x2:9c5b29ae,1c3de768,1c3e2313,1b6f035b,;00000656,000002f9,00000234,000001c3,;true;"},
		{"the fourth power is a not-a-number", sectionOf(2, 2, 0, 0, -5e18, 1e19), 1e20, 3, "2x2:7e61b210,fe61b210,5e03d6c8,5e03d6c8,;7ebc1440,7ea9456c,7ea9456c,7e985814,;true;"},
		{"the sixth power is a not-a-number", sectionOf(2, 2, 3e10, -1e10, 1e10, -1e10), 1e20, 5, "2x2:667ffff2,667ffff2,00000000,00000000,;62821ab1,6258d728,6258d728,6278d727,77fffff4,7f800000,;true;"},
		{"the first slope is 0", sectionOf(1, 1, -6e-22), 0.7, 1, "1x1:9c3556c0,;00000101,00000000,;true;"},
		{"the first slope is 0", sectionOf(1, 1, 3), 1, 1, "1x1:40400000,;41100000,00000000,;true;"},
		{"the first slope is a not-a-number", sectionOf(3, 2, 5e19, 5e18, 0, -1e19, 7e19, 2e19), 1e20, 1, "3x2:7fc00000,7fc00000,7fc00000,7fc00000,7fc00000,7fc00000,;7f800000,7fc00000,;true;"},
		{"the first slope is a not-a-number", sectionOf(1, 1, 1e25), 1, 1, "1x1:7fc00000,;7f800000,7fc00000,;true;"},
		{"the first slope is 0", sectionOf(16, 1, filled(16, 3e-25)...), 1e30, 1, "16x1:00000000,00000000,00000000,00000000,00000000,00000000,00000000,00000000,00000000,00000000,00000000,00000000,00000000,00000000,00000000,00000000,;00000000,00000000,;true;"},
		{"the second slope is 0", sectionOf(2, 1, 1e-18, -5e-19), 1.3, 2, "2x1:21addc4e,a163d139,;03d4ad2f,026f9744,00000000,;true;"},
		{"the second slope is a not-a-number", sectionOf(2, 2, 2e18, 2e18, 1e18, 0), 1e20, 2, "2x2:ff800000,7f800000,7f800000,7f800000,;7cd8aac8,7ac097ce,7fc00000,;true;"},
		{"the third slope is 0", sectionOf(3, 1, 0, 2.1e-20, 1.5e-20), 3, 3, "3x1:9ef3e403,1f3ec582,9d7a5ab8,;00074089,0001e948,0000bd61,00000001,;true;"},
		{"the third slope is a not-a-number", sectionOf(2, 2, 6e-22, 2.1e-21, 1e18, 1.5e-21), 1e20, 3, "2x2:ff800000,7f800000,7f800000,7f800000,;7b4097ce,7ac097ce,7ac097ce,7fc00000,;true;"},
		{"the fourth slope is 0", sectionOf(3, 2, 1.5e-22, 1.5e-22, 0, 3e-24, 3e-23, -1.5e-23), 1, 4, "3x2:1b42d4c7,1b1e7920,19e32453,9aa7ad5f,9ad7d19d,9acf9f58,;00000021,00000015,00000003,00000001,00000001,;true;"},
	} {
		for _, rounds := range []int64{6, 7, 20} {
			found, left, ok := impl.FitSection(c.data, c.speed, rounds)
			isShown(t, c.why, show(found, left, ok), c.want)
			isShown(t, c.why, show(len(left)), show(c.whole+1))
		}
	}
}

func TestRoundsOfFits(t *testing.T) {
	data := sectionBy(4, 5, 3)
	for _, rounds := range beyond(0, 20) {
		isShown(t, show(rounds), show(impl.FitSection(data, 1, rounds)), noFit)
	}
	whole, left, ok := impl.FitSection(data, 1, 20)
	isShown(t, "20", show(len(left), impl.ValidSection(whole), ok), "21;true;true;")
	none, first, ok := impl.FitSection(data, 1, 0)
	energy, _ := impl.SectionDot(data, data)
	isShown(t, "0", show(none, first, ok), show(sectionOf(4, 5, make([]float32, 20)...), nums(energy), true))
}
