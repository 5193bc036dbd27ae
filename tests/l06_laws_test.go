package tests

import (
	"math"
	"testing"

	"loop.example/g01231/impl"
)

func plainSpeeds() []float32 {
	return []float32{0.3, 0.5, 1, 1.3, 2.7, 7, 40}
}

// lengthOf is the length of a path, in 64-bit numbers.
func lengthOf(p impl.Path) float64 {
	return math.Hypot(float64(p.ToX)-float64(p.FromX), float64(p.ToZ)-float64(p.FromZ))
}

// longDot is the sum of the products of the values of two sections.
func longDot(a, b impl.Section) float64 {
	sum := 0.0
	for i, x := range a.Values {
		sum += float64(x) * float64(b.Values[i])
	}
	return sum
}

func TestBothDirectionsAreAdjoint(t *testing.T) {
	for _, a := range plainSections() {
		for seed := range uint32(4) {
			b := sectionBy(a.Wide, a.Deep, seed+70)
			for _, speed := range plainSpeeds() {
				there, one := impl.SpreadSection(a, speed)
				back, two := impl.GatherSection(b, speed)
				sent, three := impl.SectionDot(there, b)
				gathered, four := impl.SectionDot(a, back)
				isShown(t, "adjoint", show(one, two, three, four), "true;true;true;true;")
				most := math.Sqrt(longDot(there, there)*longDot(b, b)) + math.Sqrt(longDot(a, a)*longDot(back, back))
				if !(math.Abs(float64(sent)-float64(gathered)) <= 1e-6*most) {
					t.Errorf("%d x %d, speed %v: got %v and %v", a.Wide, a.Deep, speed, sent, gathered)
				}
			}
		}
	}
}

// What one cell sends to another one, this one gathers from it: each number of one
// direction is a number of the other one, to the last bit.
func TestBothDirectionsHaveTheSameShares(t *testing.T) {
	for _, size := range [][2]int64{{1, 1}, {4, 4}, {5, 3}, {2, 7}} {
		count := size[0] * size[1]
		for _, speed := range plainSpeeds() {
			var there, back []impl.Section
			for cell := range count {
				pulse := pulseSection(size[0], size[1], cell)
				sent, _ := impl.SpreadSection(pulse, speed)
				gathered, _ := impl.GatherSection(pulse, speed)
				there, back = append(there, sent), append(back, gathered)
			}
			for i := range count {
				for k := range count {
					isNumber(t, show(size, speed, i, k), there[i].Values[k], back[k].Values[i])
				}
			}
		}
	}
}

// A cell sends all of its value to each trace, at the time of its curve, as far as
// this is a time of the section.
func TestCellsSendAlongTheirCurves(t *testing.T) {
	const wide, deep = 9, 12
	for cell := range int64(wide * deep) {
		x, z := cell%wide, cell/wide
		for _, speed := range plainSpeeds() {
			sent, _ := impl.SpreadSection(pulseSection(wide, deep, cell), speed)
			for u := range int64(wide) {
				time := math.Hypot(float64(z), float64(u-x)/float64(speed))
				var sum, mean float64
				for k := range int64(deep) {
					share := float64(sent.Values[u+wide*k])
					sum += share
					mean += share * float64(k)
					if share != 0 && math.Abs(float64(k)-time) > 1.00001 {
						t.Errorf("cell %d, speed %v: got %v at %d, and the curve is at %v", cell, speed, share, k, time)
					}
				}
				if time < deep-1.00001 && !(math.Abs(sum-1) < 1e-5 && math.Abs(mean-time) < 1e-4) {
					t.Errorf("cell %d, speed %v: got %v at %v, want 1 at %v", cell, speed, sum, mean, time)
				}
				if time > deep+0.00001 && sum != 0 {
					t.Errorf("cell %d, speed %v: got %v behind the section", cell, speed, sum)
				}
			}
		}
	}
}

func TestTwiceAsMuchIsSentTwice(t *testing.T) {
	for _, s := range plainSections() {
		for _, by := range []float32{2, -1, 0.25} {
			for _, speed := range plainSpeeds() {
				scaled, _ := impl.ScaleSection(s, by)
				there, _ := impl.SpreadSection(s, speed)
				back, _ := impl.GatherSection(s, speed)
				// A sum that begins with +0 is +0 where all is taken away from it.
				positive, _ := impl.FlatSection(s.Wide, s.Deep, 0)
				wantThere, _ := impl.ScaleSection(there, by)
				wantThere, _ = impl.AddSections(positive, wantThere)
				wantBack, _ := impl.ScaleSection(back, by)
				wantBack, _ = impl.AddSections(positive, wantBack)
				isShown(t, "there", show(impl.SpreadSection(scaled, speed)), show(wantThere, true))
				isShown(t, "back", show(impl.GatherSection(scaled, speed)), show(wantBack, true))
			}
		}
	}
}

// Each round leaves no more than there was, nearly, and what is left is told.
func TestFitsLeaveNoMore(t *testing.T) {
	for _, data := range plainSections() {
		for _, speed := range plainSpeeds() {
			found, left, ok := impl.FitSection(data, speed, 12)
			isShown(t, "fit", show(ok), "true;")
			isNear(t, "first", float64(left[0]), longDot(data, data), 1e-6)
			for k := range left[1:] {
				if !(left[k+1] <= left[k]*1.0001+1e-9) {
					t.Errorf("%d x %d, speed %v: got %v", data.Wide, data.Deep, speed, left)
				}
			}
			sent, _ := impl.SpreadSection(found, speed)
			minus, _ := impl.ScaleSection(sent, -1)
			rest, _ := impl.AddSections(data, minus)
			if off := math.Abs(longDot(rest, rest) - float64(left[len(left)-1])); !(off <= 1e-3*float64(left[0])) {
				t.Errorf("%d x %d, speed %v: what is left is off by %v of %v", data.Wide, data.Deep, speed, off, left)
			}
		}
	}
}

// Data that a section has sent are found again: nearly nothing of them is left.
func TestFitsFindWhatHasBeenSent(t *testing.T) {
	for k, s := range plainSections() {
		for _, speed := range plainSpeeds() {
			data, _ := impl.SpreadSection(s, speed)
			_, left, ok := impl.FitSection(data, speed, 20)
			isShown(t, "fit", show(ok), "true;")
			if last := left[len(left)-1]; !(last <= 0.03*left[0]) {
				t.Errorf("section %d, speed %v: %v is left of %v", k, speed, last, left[0])
			}
		}
	}
	// Where each cell sends to its own trace alone, the section is found.
	s := sectionOf(1, 5, 3, -1, 4, 1, -5)
	isShown(t, "one column", show(impl.FitSection(s, 2, 20)), show(s, nums(52, 0), true))
}

func TestFewerRoundsComeBeforeMore(t *testing.T) {
	for _, data := range plainSections()[:8] {
		_, all, _ := impl.FitSection(data, 1.3, 20)
		for rounds := range int64(21) {
			_, left, ok := impl.FitSection(data, 1.3, rounds)
			isShown(t, show(rounds), show(left, ok), show(all[:min(len(all), int(rounds)+1)], true))
		}
	}
}

func TestEdgesOfSlopes(t *testing.T) {
	for _, size := range [][2]int64{{1, 1}, {3, 5}, {5, 3}, {16, 16}, {4, 2}} {
		s, _ := impl.FlatSection(size[0], size[1], 0)
		for i := range s.Values {
			s.Values[i] = 3*float32(i%int(size[0])) - 2*float32(i/int(size[0]))
		}
		edges, ok := impl.EdgeSection(s)
		isShown(t, "edges", show(ok), "true;")
		for i, x := range edges.Values {
			want := float32(-2)
			if z := int64(i) / size[0]; size[1] == 1 {
				want = 0
			} else if z == 0 || z == size[1]-1 {
				want = -1
			}
			isNumber(t, show(size, i), x, want)
		}
	}
}

// Smoothing spreads a value, and neither loses nor adds any: at borders, too.
func TestSmoothSectionsKeepTheirSum(t *testing.T) {
	for _, s := range plainSections() {
		for _, share := range []float32{0, 0.25, 0.5, 1, -0.5} {
			smooth, ok := impl.SmoothSection(s, share)
			isShown(t, "smooth", show(ok), "true;")
			whole, _ := impl.FlatSection(s.Wide, s.Deep, 1)
			if off := longDot(smooth, whole) - longDot(s, whole); !(math.Abs(off) < 1e-5) {
				t.Errorf("%d x %d, share %v: the sum is off by %v", s.Wide, s.Deep, share, off)
			}
			if share >= 0 && share <= 0.5 && !(longDot(smooth, smooth) <= longDot(s, s)*1.00001) {
				t.Errorf("%d x %d, share %v: got %v of %v", s.Wide, s.Deep, share, longDot(smooth, smooth), longDot(s, s))
			}
		}
		isShown(t, "no share", show(impl.SmoothSection(s, 0)), show(s, true))
		flat, _ := impl.FlatSection(s.Wide, s.Deep, 3)
		isShown(t, "flat", show(impl.SmoothSection(flat, 0.25)), show(flat, true))
		isShown(t, "flat", show(impl.SmoothSection(flat, 1)), show(flat, true))
	}
}

func TestLengthsAreThoseOfPaths(t *testing.T) {
	inside := append(pathsBy(200, 3), pathOf(0, 0, 15.9, 15.9), pathOf(3, 0, 3, 15), pathOf(0, 7, 15, 7))
	for _, p := range inside {
		p = pathOf(p.FromX/4+8, p.FromZ/4+8, p.ToX/4+8, p.ToZ/4+8)
		for _, parts := range []int64{1, 3, 100, 256} {
			lengths, ok := impl.LengthsOf(16, 16, p, parts)
			isShown(t, "lengths", show(ok), "true;")
			sum := 0.0
			for _, x := range lengths {
				sum += float64(x)
			}
			isNear(t, "length", sum, lengthOf(p), 1e-5)
		}
	}
}

// Many parts tell the length of a path in a cell that it crosses, nearly.
func TestManyPartsTellLengths(t *testing.T) {
	for _, p := range pathsBy(200, 9) {
		lengths, _ := impl.LengthsOf(6, 6, p, 256)
		for cell, x := range lengths {
			want := lengthOf(p) * crossed(p, float64(cell%6), float64(cell/6))
			if !(math.Abs(float64(x)-want) <= lengthOf(p)*1.01/256) {
				t.Errorf("%v: got %v in cell %d, want nearly %v", p, x, cell, want)
			}
		}
	}
}

// crossed is how much of a path lies in a cell: what is left of all of it where
// both of its coordinates are within the cell.
func crossed(p impl.Path, x, z float64) float64 {
	from, to := 0.0, 1.0
	for _, c := range [][3]float64{{float64(p.FromX), float64(p.ToX), x}, {float64(p.FromZ), float64(p.ToZ), z}} {
		one, two := (c[2]-c[0])/(c[1]-c[0]), (c[2]+1-c[0])/(c[1]-c[0])
		from, to = max(from, min(one, two)), min(to, max(one, two))
	}
	return max(0, to-from)
}

// Where all numbers are exact, paths that go back or elsewhere have the same lengths.
func TestPathsBackAndElsewhere(t *testing.T) {
	for seed := range uint32(60) {
		var ends [4]float32
		for k, x := range wavy(4, seed) {
			ends[k] = float32(math.Floor(float64(x)*16)) / 8
		}
		p := pathOf(4+ends[0], 4+ends[1], 4+ends[2], 4+ends[3])
		back := pathOf(p.ToX, p.ToZ, p.FromX, p.FromZ)
		right := pathOf(p.FromX+3, p.FromZ, p.ToX+3, p.ToZ)
		turned := pathOf(p.FromZ, p.FromX, p.ToZ, p.ToX)
		for _, parts := range []int64{1, 16, 256} {
			lengths, _ := impl.LengthsOf(13, 13, p, parts)
			isShown(t, "back", show(impl.LengthsOf(13, 13, back, parts)), show(lengths, true))
			there, _ := impl.LengthsOf(13, 13, right, parts)
			across, _ := impl.LengthsOf(13, 13, turned, parts)
			for cell, x := range lengths {
				if cell%13 < 10 {
					isNumber(t, "right", there[cell+3], x)
				}
				isNumber(t, "turned", across[cell%13*13+cell/13], x)
			}
		}
	}
}

func TestHitsAreWhereLengthsAre(t *testing.T) {
	list := append(pathsBy(20, 4), pathOf(0, 1, 6, 1), pathOf(2, 0, 2, 6))
	for _, parts := range []int64{1, 4, 31, 256} {
		want := make([]int64, 36)
		for _, p := range list {
			lengths, _ := impl.LengthsOf(6, 6, p, parts)
			for cell, x := range lengths {
				if x > 0 {
					want[cell]++
				}
			}
		}
		isShown(t, show(parts), show(impl.HitsOf(6, 6, list, parts)), show(want, true))
	}
}

// In a section of one value, the time of a path is its length there times this.
func TestTimesInFlatSections(t *testing.T) {
	for _, value := range []float32{1, 0.3, -2, 0} {
		flat, _ := impl.FlatSection(6, 6, value)
		for _, p := range pathsBy(50, 6) {
			lengths, _ := impl.LengthsOf(6, 6, p, 50)
			time, ok := impl.TimeAlong(flat, p, 50)
			isShown(t, "time", show(ok), "true;")
			want := 0.0
			for _, x := range lengths {
				want += float64(x) * float64(value)
			}
			isNear(t, "time", float64(time), want, 1e-5)
		}
	}
}

// A path that is pulled has its time, nearly, and nothing has changed where it
// does not go.
func TestPulledPathsHaveTheirTimes(t *testing.T) {
	s := sectionBy(6, 6, 1)
	for k, p := range pathsBy(60, 8) {
		for _, parts := range []int64{1, 10, 256} {
			lengths, _ := impl.LengthsOf(6, 6, p, parts)
			before, _ := impl.TimeAlong(s, p, parts)
			for _, share := range []float32{1, 0.5, 0.1, 1.7} {
				time := float32(k)/10 + 0.7
				pulled, ok := impl.PullPath(s, p, time, parts, share)
				after, _ := impl.TimeAlong(pulled, p, parts)
				isShown(t, "pulled", show(ok), "true;")
				if greatestIn(lengths) == 0 {
					isShown(t, "outside", show(pulled), show(s))
					continue
				}
				want := float64(before) + float64(share)*(float64(time)-float64(before))
				if !(math.Abs(float64(after)-want) < 2e-5) {
					t.Errorf("%v, %d parts, share %v: got the time %v, want nearly %v", p, parts, share, after, want)
				}
				for cell, x := range lengths {
					if x == 0 {
						isNumber(t, "not pulled", pulled.Values[cell], s.Values[cell])
					}
				}
			}
		}
	}
}

// offAfter is how far times of a true section are off after some rounds.
func offAfter(t *testing.T, list []impl.Path, share float32, rounds int64) float32 {
	t.Helper()
	times, _ := impl.TimesAlong(sectionBy(6, 6, 4), list, 60)
	flat, _ := impl.FlatSection(6, 6, 0)
	pulled, one := impl.PullPaths(flat, list, times, 60, share, rounds)
	off, two := impl.OffTimes(pulled, list, times, 60)
	isShown(t, "pulled", show(one, two), "true;true;")
	return off
}

// Paths of a true section are pulled to their times, nearly, round by round.
func TestManyPathsHaveTheirTimes(t *testing.T) {
	for _, count := range []int{1, 2, 5, 12, 20} {
		for _, share := range []float32{1, 0.6} {
			first := offAfter(t, pathsBy(count, 2), share, 0)
			last := offAfter(t, pathsBy(count, 2), share, 40)
			if !(last <= 0.05*first) {
				t.Errorf("%d paths, share %v: the times are off by %v after %v", count, share, last, first)
			}
		}
	}
	// Paths that share no cell are pulled in one round.
	var rows []impl.Path
	for z := range 6 {
		rows = append(rows, pathOf(-1, float32(z)+0.5, 7, float32(z)+0.3))
	}
	if off := offAfter(t, rows, 1, 1); !(off < 1e-5) {
		t.Errorf("rows: the times are off by %v", off)
	}
}

// Many paths are pulled one after another, and round after round, to the last bit.
func TestPullsOneAfterAnother(t *testing.T) {
	for _, count := range []int{1, 2, 7, 32} {
		list, times := pathsBy(count, 7), wavy(count, 8)
		for _, share := range []float32{1, 0.3} {
			s := sectionBy(6, 6, 9)
			for rounds := range int64(6) {
				isShown(t, show(count, share, rounds), show(impl.PullPaths(sectionBy(6, 6, 9), list, times, 20, share, rounds)), show(s, true))
				for i, p := range list {
					s, _ = impl.PullPath(s, p, times[i], 20, share)
				}
			}
		}
	}
}
