package impl

import (
	"math"
	"strconv"
	"strings"
)

// Limits of chapter 1.
const (
	MaxNumbers = 256
	MaxValue   = 1000000000000000
	MaxItems   = 64
	CheckSize  = 65003
)

// Texts of lists.
const (
	emptyText  = "none"
	bitsDigits = 8
)

// The bits that tell every not-a-number.
const notNumberBits = 0x7fc00000

// number is what the generic sums of this chapter add.
type number interface {
	float32 | complex64
}

// Products are converted to their own type throughout, since a product that is
// not may be fused with the sum around it and then lacks its own rounding.

// SameNumber reports whether two numbers are the same.
func SameNumber(a, b float32) bool {
	return BitsOf(a) == BitsOf(b)
}

// IsFinite reports whether x is finite.
func IsFinite(x float32) bool {
	return isFiniteLong(float64(x))
}

func isFiniteLong(x float64) bool {
	return !math.IsNaN(x) && !math.IsInf(x, 0)
}

// BitsOf returns the bits of a number.
func BitsOf(x float32) int64 {
	if x != x {
		return notNumberBits
	}
	return int64(math.Float32bits(x))
}

// FromBits returns the number with the given bits.
func FromBits(n int64) (float32, bool) {
	if n < 0 || n > math.MaxUint32 {
		return 0, false
	}
	return math.Float32frombits(uint32(n)), true
}

func notNumber() float32 {
	return math.Float32frombits(notNumberBits)
}

// NarrowNumber returns the nearest 32-bit number.
func NarrowNumber(x float64) float32 {
	return float32(x)
}

// IsSubnormal reports whether x is subnormal.
func IsSubnormal(x float32) bool {
	return x != 0 && math.Abs(float64(x)) < 0x1p-126
}

// FlushNumber returns x, but a zero if it is subnormal.
func FlushNumber(x float32) float32 {
	if IsSubnormal(x) {
		return float32(math.Copysign(0, float64(x)))
	}
	return x
}

// SameComplex reports whether two complex numbers are the same.
func SameComplex(a, b complex64) bool {
	return SameNumber(real(a), real(b)) && SameNumber(imag(a), imag(b))
}

// IsFiniteComplex reports whether both parts are finite.
func IsFiniteComplex(x complex64) bool {
	return IsFinite(real(x)) && IsFinite(imag(x))
}

// NarrowComplex returns a number with narrowed parts.
func NarrowComplex(x complex128) complex64 {
	return complex(NarrowNumber(real(x)), NarrowNumber(imag(x)))
}

// longProduct returns both parts of a product before they are narrowed.
func longProduct(x, y complex64) (float64, float64) {
	a, b := float64(real(x)), float64(imag(x))
	c, d := float64(real(y)), float64(imag(y))
	return float64(a*c) - float64(b*d), float64(a*d) + float64(b*c)
}

// MulComplex returns a product.
func MulComplex(x, y complex64) complex64 {
	re, im := longProduct(x, y)
	return complex(NarrowNumber(re), NarrowNumber(im))
}

// ScaleComplex returns a product with a number.
func ScaleComplex(x complex64, by float32) complex64 {
	return complex(mulNumbers(real(x), by), mulNumbers(imag(x), by))
}

func mulNumbers(a, b float32) float32 {
	return float32(a * b)
}

// ConjugateOf returns the conjugate.
func ConjugateOf(x complex64) complex64 {
	return complex(real(x), -imag(x))
}

// longPower returns the power before it is narrowed.
func longPower(x complex64) float64 {
	a, b := float64(real(x)), float64(imag(x))
	return float64(a*a) + float64(b*b)
}

// PowerOf returns the power.
func PowerOf(x complex64) float32 {
	return NarrowNumber(longPower(x))
}

// LongOf returns the root of the power.
func LongOf(x complex64) float32 {
	return NarrowNumber(math.Sqrt(longPower(x)))
}

// QuotientOf returns a quotient.
func QuotientOf(x, y complex64) complex64 {
	re, im := longProduct(x, ConjugateOf(y))
	power := longPower(y)
	return complex(NarrowNumber(re/power), NarrowNumber(im/power))
}

// RootNumber returns the square root.
func RootNumber(x float32) float32 {
	return NarrowNumber(math.Sqrt(float64(x)))
}

// turnLength returns the length of a whole turn on the unit circle.
func turnLength() float64 {
	return 6.283185307179586
}

// isFarTurn reports whether a number of turns is too great to have places behind
// the point.
func isFarTurn(turns float64) bool {
	return math.Abs(turns) >= 1<<52
}

// partOfTurn returns what is left of a number of turns without the whole ones;
// it is 1 where a difference just below 0 is rounded.
func partOfTurn(turns float64) float64 {
	// An integer 0 has no sign, as that of math.Trunc has: -0 less +0 stays -0.
	f := turns - float64(int64(turns))
	if f < 0 {
		f++
	}
	return f
}

// sineOf returns the sine of some turns that are not far.
func sineOf(turns float64) float64 {
	f := partOfTurn(turns)
	turned := f >= 0.5
	if turned {
		f -= 0.5
	}
	if f > 0.25 {
		f = 0.5 - f
	}
	z := float64(f * turnLength())
	u := float64(z * z)
	p := 1.0
	for k := 8.0; k >= 1; k-- {
		p = 1 - float64(u*p)/(2*k*(2*k+1))
	}
	if turned {
		return -float64(z * p)
	}
	return float64(z * p)
}

// SineTurns returns the sine of some turns.
func SineTurns(x float32) float32 {
	turns := float64(x)
	switch {
	case !isFiniteLong(turns):
		return notNumber()
	case isFarTurn(turns):
		return 0
	}
	return NarrowNumber(sineOf(turns))
}

// PhasorOf returns a point of the unit circle.
func PhasorOf(turns float64) complex64 {
	switch {
	case !isFiniteLong(turns):
		return complex(notNumber(), notNumber())
	case isFarTurn(turns):
		return 1
	}
	f := partOfTurn(turns)
	q := 0
	for f >= 0.25 {
		f -= 0.25
		q++
	}
	c, s := sineOf(0.25-f), sineOf(f)
	// 0 less a zero is +0, which its opposite would not be.
	switch q {
	case 1:
		c, s = 0-s, c
	case 2:
		c, s = 0-c, 0-s
	case 3:
		c, s = s, 0-c
	}
	return complex(NarrowNumber(c), NarrowNumber(s))
}

// AngleOf returns the angle in turns.
func AngleOf(x complex64) float32 {
	return AngleTurns(imag(x), real(x))
}

// AngleTurns returns the angle of a point.
func AngleTurns(y, x float32) float32 {
	if !IsFinite(x) || !IsFinite(y) {
		return notNumber()
	}
	if x == 0 && y == 0 {
		return 0
	}
	angle := flatAngle(math.Abs(float64(y)), math.Abs(float64(x)))
	if x < 0 {
		angle = 0.5 - angle
	}
	if y < 0 {
		angle = -angle
	}
	return NarrowNumber(angle)
}

// flatAngle returns the angle of a point with the height a and the width b.
func flatAngle(a, b float64) float64 {
	if a > b {
		return 0.25 - arcOf(b/a)
	}
	return arcOf(a / b)
}

// arcOf returns the angle in turns whose tangent is t, from 0 to 1.
func arcOf(t float64) float64 {
	for range 3 {
		t = t / (1 + math.Sqrt(1+float64(t*t)))
	}
	u := float64(t * t)
	p := 0.0
	for k := 15.0; k >= 1; k -= 2 {
		p = 1/k - float64(u*p)
	}
	return float64(8*float64(t*p)) / turnLength()
}

// TenthsOf returns tenths of decibels.
func TenthsOf(power float32) (int64, bool) {
	const tenthsOfOne = 43.42944819032518
	if !IsFinite(power) || power <= 0 {
		return 0, false
	}
	tenths := float64(logOf(float64(power))*tenthsOfOne) + 0.5
	return int64(math.Floor(tenths)), true
}

// logOf returns the natural logarithm of a finite number greater than 0.
func logOf(x float64) float64 {
	const logOfTwo = 0.6931471805599453
	e := 0.0
	for x >= 1.5 {
		x /= 2
		e++
	}
	for x < 0.75 {
		x *= 2
		e--
	}
	s := (x - 1) / (x + 1)
	u := float64(s * s)
	q := 0.0
	for k := 25.0; k >= 1; k -= 2 {
		q = 1/k + float64(u*q)
	}
	return float64(2*float64(s*q)) + float64(e*logOfTwo)
}

// sumList returns the sum of a list, from +0 on and from left to right.
func sumList[T number](list []T) (T, bool) {
	var sum T
	if len(list) > MaxNumbers {
		return sum, false
	}
	for _, x := range list {
		sum += x
	}
	return sum, true
}

// dotLists returns the sum of the products of two lists.
func dotLists[T number](a, b []T, times func(x, y T) T) (T, bool) {
	var sum T
	if len(a) != len(b) || len(a) > MaxNumbers {
		return sum, false
	}
	for i, x := range a {
		sum += times(x, b[i])
	}
	return sum, true
}

// SumNumbers returns the sum from left to right.
func SumNumbers(list []float32) (float32, bool) {
	return sumList(list)
}

// DotNumbers returns the sum of products.
func DotNumbers(a, b []float32) (float32, bool) {
	return dotLists(a, b, mulNumbers)
}

// SumComplex returns the sum from left to right.
func SumComplex(list []complex64) (complex64, bool) {
	return sumList(list)
}

// DotComplex returns the sum of products.
func DotComplex(a, b []complex64) (complex64, bool) {
	return dotLists(a, b, MulComplex)
}

// DotConjugate returns the sum of products with conjugates.
func DotConjugate(a, b []complex64) (complex64, bool) {
	return dotLists(a, b, mulConjugate)
}

func mulConjugate(x, y complex64) complex64 {
	return MulComplex(ConjugateOf(x), y)
}

// PowersOf returns the sum of powers.
func PowersOf(list []complex64) (float32, bool) {
	if len(list) > MaxNumbers {
		return 0, false
	}
	sum := 0.0
	for _, x := range list {
		sum += longPower(x)
	}
	return NarrowNumber(sum), true
}

// joinItems returns the text of at most most items.
func joinItems[T any](list []T, most int, textOf func(x T) string) (string, bool) {
	if len(list) > most {
		return "", false
	}
	if len(list) == 0 {
		return emptyText, true
	}
	words := make([]string, len(list))
	for i, x := range list {
		words[i] = textOf(x)
	}
	return strings.Join(words, ","), true
}

// splitItems returns the at most most items of a text that joinItems makes.
func splitItems[T any](s string, most int, read func(word string) (T, bool)) ([]T, bool) {
	if s == emptyText {
		return nil, true
	}
	if strings.Count(s, ",") >= most {
		return nil, false
	}
	var list []T
	for _, word := range strings.Split(s, ",") {
		x, ok := read(word)
		if !ok {
			return nil, false
		}
		list = append(list, x)
	}
	return list, true
}

func numberText(x float32) string {
	digits := strconv.FormatInt(BitsOf(x), 16)
	return strings.Repeat("0", bitsDigits-len(digits)) + digits
}

func readNumber(s string) (float32, bool) {
	n, err := strconv.ParseUint(s, 16, 32)
	if err != nil {
		return 0, false
	}
	x := math.Float32frombits(uint32(n))
	// Capitals, missing digits and not-a-numbers with other bits are texts of nothing.
	if numberText(x) != s {
		return 0, false
	}
	return x, true
}

func complexText(x complex64) string {
	return numberText(real(x)) + numberText(imag(x))
}

func readComplexNumber(s string) (complex64, bool) {
	if len(s) != 2*bitsDigits {
		return 0, false
	}
	re, first := readNumber(s[:bitsDigits])
	im, second := readNumber(s[bitsDigits:])
	if !first || !second {
		return 0, false
	}
	return complex(re, im), true
}

// NumbersText returns the text of numbers.
func NumbersText(list []float32) (string, bool) {
	return joinItems(list, MaxNumbers, numberText)
}

// ReadNumbers returns the numbers with the given text.
func ReadNumbers(s string) ([]float32, bool) {
	return splitItems(s, MaxNumbers, readNumber)
}

// ComplexText returns the text of complex numbers.
func ComplexText(list []complex64) (string, bool) {
	return joinItems(list, MaxNumbers, complexText)
}

// ReadComplex returns the complex numbers with the given text.
func ReadComplex(s string) ([]complex64, bool) {
	return splitItems(s, MaxNumbers, readComplexNumber)
}

// IsName reports whether s is a name.
func IsName(s string) bool {
	for _, c := range []byte(s) {
		if c < 'a' || c > 'z' {
			return false
		}
	}
	return len(s) >= 1 && len(s) <= 8
}

// Decimal returns n in decimal.
func Decimal(n int64) string {
	return strconv.FormatInt(n, 10)
}

func isValue(n int64) bool {
	return -MaxValue <= n && n <= MaxValue
}

// ReadDecimal returns the number with the given decimal text.
func ReadDecimal(s string) (int64, bool) {
	n, err := strconv.ParseInt(s, 10, 64)
	if err != nil || !isValue(n) || Decimal(n) != s {
		return 0, false
	}
	return n, true
}

// ListText returns the text of a list.
func ListText(list []int64) (string, bool) {
	for _, n := range list {
		if !isValue(n) {
			return "", false
		}
	}
	return joinItems(list, MaxItems, Decimal)
}

// ReadList returns the list with the given text.
func ReadList(s string) ([]int64, bool) {
	return splitItems(s, MaxItems, ReadDecimal)
}

// CheckOf returns the check number of a text.
func CheckOf(start int64, s string) (int64, bool) {
	if start < 0 || start >= CheckSize {
		return 0, false
	}
	check := start
	for _, c := range []byte(s) {
		check = (733*check + int64(c) + 61) % CheckSize
	}
	return check, true
}
