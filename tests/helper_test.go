package tests

import (
	"fmt"
	"math"
	"strings"
	"testing"

	"loop.example/g01231/impl"
)

// The tests compare bits, since == takes both zeros for one and no
// not-a-number for itself. These helpers do so without the tested functions.

const nanBits = 0x7fc00000

func bitsOf(x float32) uint32 {
	if x != x {
		return nanBits
	}
	return math.Float32bits(x)
}

func num(bits uint32) float32 {
	return math.Float32frombits(bits)
}

func cnum(re, im uint32) complex64 {
	return complex(num(re), num(im))
}

func word(x float32) string {
	return fmt.Sprintf("%08x", bitsOf(x))
}

func pair(x complex64) string {
	return word(real(x)) + word(imag(x))
}

// show writes a result so that two of them are alike only if they are the same;
// nil and empty slices are.
func show(results ...any) string {
	var b strings.Builder
	for _, r := range results {
		switch x := r.(type) {
		case float32:
			b.WriteString(word(x))
		case complex64:
			b.WriteString(pair(x))
		case []float32:
			for _, y := range x {
				b.WriteString(word(y) + ",")
			}
		case []complex64:
			for _, y := range x {
				b.WriteString(pair(y) + ",")
			}
		case impl.Ground:
			b.WriteString(showGround(x))
		case impl.Gather:
			b.WriteString(showGather(x))
		case impl.Section:
			b.WriteString(showSection(x))
		case impl.Frame:
			b.WriteString(showFrame(x))
		case []impl.Frame:
			for _, f := range x {
				b.WriteString(showFrame(f) + "|")
			}
		case []string:
			fmt.Fprintf(&b, "%q", x)
		case impl.Path:
			b.WriteString(showPath(x))
		case impl.Desk:
			b.WriteString(showDesk(x))
		default:
			fmt.Fprint(&b, x)
		}
		b.WriteString(";")
	}
	return b.String()
}

func isShown(t *testing.T, what string, got, want string) {
	t.Helper()
	if got != want {
		t.Errorf("%s: got %s, want %s", what, got, want)
	}
}

func isNumber(t *testing.T, what string, got, want float32) {
	t.Helper()
	isShown(t, what, word(got), word(want))
}

func isComplex(t *testing.T, what string, got, want complex64) {
	t.Helper()
	isShown(t, what, pair(got), pair(want))
}

// someNumbers are numbers of every kind.
func someNumbers() []float32 {
	list := []float32{1, -1, 0.25, -0.5, 3, -7.5, 0.1, 1e-20, -1e-20, 1e30, 1 << 24, -(1 << 52), math.MaxFloat32}
	for _, b := range []uint32{0, 0x80000000, 1, 0x80000001, 0x007fffff, 0x00800000, 0x7f800000, 0xff800000,
		nanBits, 0x7f800001, 0xffffffff} {
		list = append(list, num(b))
	}
	return list
}

func someComplex() []complex64 {
	var list []complex64
	for _, x := range someNumbers() {
		for _, y := range someNumbers() {
			list = append(list, complex(x, y))
		}
	}
	return list
}

// readPair is the complex number with a text of 16 digits.
func readPair(t *testing.T, s string) complex64 {
	t.Helper()
	var re, im uint32
	if _, err := fmt.Sscanf(s, "%8x%8x", &re, &im); err != nil {
		t.Fatal(s, err)
	}
	return cnum(re, im)
}

// ones returns so many numbers 1.
func ones[T float32 | complex64 | int64](count int) []T {
	list := make([]T, count)
	for i := range list {
		list[i] = 1
	}
	return list
}

// The limits are told by the document; a test that used only impl's constants
// would follow a wrong one.
func TestLimitsOfNumbers(t *testing.T) {
	isShown(t, "limits", show(int64(impl.MaxNumbers), int64(impl.MaxValue), int64(impl.MaxItems), int64(impl.CheckSize)),
		"256;1000000000000000;64;65003;")
}
