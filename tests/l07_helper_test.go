package tests

import (
	"encoding/hex"
	"fmt"
	"math"
	"strings"
	"testing"

	"loop.example/g01231/impl"
)

// The tables and digests of chapter 7 were computed by another program, as the
// document tells: number by number, with exact fractions.

// What functions of chapter 7 return where they fail.
const (
	noBytes  = ";false;"
	noFrame  = "0@0:;false;"
	noPieces = "0@0:;0@0:;false;"
	noTimes  = "[];false;"
	noSpan   = "0;0;false;"
	noFill   = ";[];false;"
)

// showFrame writes all numbers of a frame by their bits.
func showFrame(f impl.Frame) string {
	var b strings.Builder
	fmt.Fprintf(&b, "%d@%d:", f.Station, f.Start)
	showWords(&b, f.Trace)
	return b.String()
}

// showBytes writes bytes that a function returns, in hexadecimal digits.
func showBytes(s string, ok bool) string {
	return show(fmt.Sprintf("%x", s), ok)
}

// bytesOf are the bytes with some hexadecimal digits.
func bytesOf(t *testing.T, digits string) string {
	t.Helper()
	s, err := hex.DecodeString(digits)
	if err != nil {
		t.Fatal(digits, err)
	}
	return string(s)
}

// showByte writes a byte as showBytes does.
func showByte(n int) string {
	return fmt.Sprintf("%02x", n)
}

// numsOf are the numbers with some bits, told by 8 hexadecimal digits each.
func numsOf(t *testing.T, words string) []float32 {
	t.Helper()
	var list []float32
	for _, digits := range strings.Split(words, ",") {
		var b uint32
		if _, err := fmt.Sscanf(digits, "%x", &b); err != nil {
			t.Fatal(words, err)
		}
		list = append(list, num(b))
	}
	return list
}

func frameOf(station, start int64, numbers ...float32) impl.Frame {
	return impl.Frame{Station: station, Start: start, Trace: numbers}
}

func frames(list ...impl.Frame) []impl.Frame {
	return list
}

// twoTo is a power of 2.
func twoTo(e int) float32 {
	return float32(math.Ldexp(1, e))
}

// spread are so many numbers of a small rule, which are of very different sizes.
func spread(count int, seed uint32) []float32 {
	list := wavy(count, seed)
	for k, x := range list {
		list[k] = float32(math.Ldexp(float64(x), (k*37+int(seed)*11)%190-95))
	}
	return list
}

// sized are so many numbers of a small rule, times a power of 2.
func sized(count int, seed uint32, e int) []float32 {
	list := wavy(count, seed)
	for k, x := range list {
		list[k] = float32(math.Ldexp(float64(x), e))
	}
	return list
}

// keptTraces are traces as frames have, all of which can be rounded.
func keptTraces() [][]float32 {
	var list [][]float32
	for _, count := range []int{1, 2, 7, 8, 9, 15, 16, 17, 64, 120, 121, 127, 128} {
		list = append(list, wavy(count, uint32(count)), spread(count, uint32(count)))
	}
	for _, e := range []int{-149, -140, -127, -117, -101, -100, -99, -50, 0, 50, 96, 97} {
		list = append(list, sized(20, uint32(e+200), e))
	}
	minus := minusZero()
	return append(list, nums(0), nums(minus), filled(128, 0), filled(17, minus), nums(0, minus, num(1), -num(1), 0.1, minus, 0, 1e-40, minus, -1e-40))
}

// someFrames are valid frames, which can be rounded.
func someFrames() []impl.Frame {
	var list []impl.Frame
	stations, starts := []int64{0, 1, 127, 128, 199, 200}, []int64{0, 1, 255, 256, 65535, 65536, 99999, 100000}
	for k, a := range keptTraces() {
		list = append(list, frameOf(stations[k%len(stations)], starts[k%len(starts)], a...))
	}
	return list
}

// edgeFrames are valid frames, too, with the greatest numbers.
func edgeFrames() []impl.Frame {
	most := just(twoTo(99), -1)
	return frames(frameOf(0, 0, most), frameOf(200, 100000, -most), frameOf(200, 100000, filled(128, most)...), frameOf(7, 9, 0, -most, 0, 1))
}

// noStations are no stations of frames, and noStarts no starts.
func noStations() []int64 {
	return append(beyond(0, 200), 255, 256, 257)
}

func noStarts() []int64 {
	return []int64{-1, 100001, 100002, -100000, 200000, 1 << 24, 1 << 32, 1<<32 + 1, -1 << 32, math.MaxInt64, math.MinInt64}
}

// noNumbers are no numbers of frames, the first ones of them by the least.
func noNumbers() []float32 {
	least := twoTo(99)
	return []float32{least, -least, just(least, 1), twoTo(100), -twoTo(127), math.MaxFloat32, infinite(), -infinite(), notNumber()}
}

// noFramesAtAll are frames that are not valid.
func noFramesAtAll() []impl.Frame {
	list := frames(impl.Frame{}, frameOf(1, 2), frameOf(1, 2, ones[float32](129)...), frameOf(1, 2, ones[float32](1000)...))
	for _, n := range noStations() {
		list = append(list, frameOf(n, 2, 1, 2))
	}
	for _, n := range noStarts() {
		list = append(list, frameOf(1, n, 1, 2))
	}
	for _, x := range noNumbers() {
		list = append(list, frameOf(1, 2, x), frameOf(1, 2, 0, 0, x), frameOf(1, 2, withNumber(wavy(128, 1), 127, x)...),
			frameOf(1, 2, withNumber(wavy(20, 1), 9, x)...))
	}
	return list
}

// framesBy returns so many frames of a small rule: of three stations, and near to
// one another.
func framesBy(count int, seed uint32) []impl.Frame {
	pick := func(most uint32) int64 {
		seed = seed*1103515245 + 12345
		return int64(seed >> 16 % most)
	}
	list := make([]impl.Frame, count)
	for i := range list {
		station, start, long := []int64{0, 7, 200}[pick(3)], pick(40), pick(9)+1
		list[i] = frameOf(station, start, wavy(int(long), seed)...)
	}
	return list
}

// someFrameLists are lists of frames of all lengths.
func someFrameLists() [][]impl.Frame {
	list := [][]impl.Frame{nil, someFrames()[:12], someFrames()[30:42]}
	for k := range 60 {
		list = append(list, framesBy(k%13, uint32(k+1)))
	}
	return list
}

// noFrameLists are lists with too many frames, or with a bad one among good ones.
func noFrameLists() [][]impl.Frame {
	list := [][]impl.Frame{framesBy(13, 1), framesBy(14, 2), framesBy(100, 3)}
	for k, bad := range noFramesAtAll() {
		list = append(list, frames(bad))
		mixed := framesBy(k%12+1, uint32(k))
		mixed[k*7%len(mixed)] = bad
		list = append(list, mixed)
	}
	return list
}

// checkOf is the check number of bytes, as chapter 1 tells it.
func checkOf(s string) int {
	check := 0
	for i := range len(s) {
		check = (733*check + int(s[i]) + 61) % 65003
	}
	return check
}

// sealed are bytes with their check number behind them.
func sealed(s string) string {
	check := checkOf(s)
	return s + string([]byte{byte(check % 256), byte(check / 256)})
}

// changed are bytes of which one is another one.
func changed(s string, at int, c byte) string {
	return s[:at] + string([]byte{c}) + s[at+1:]
}

func TestLimitsOfFrames(t *testing.T) {
	isShown(t, "limits", show(int64(impl.MaxFrames), int64(impl.MaxStation), int64(impl.MaxStart), int64(impl.BlockSize)), "12;200;100000;8;")
}
