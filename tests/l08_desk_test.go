package tests

import (
	"testing"

	"loop.example/g01231/impl"
)

func TestNewDesk(t *testing.T) {
	isShown(t, "NewDesk", show(impl.NewDesk()),
		"3f800000,3f800000,3f800000,00000000/over 3f800000,3f800000|1:00000000,:00000000,/;")
	isShown(t, "NewDesk", show(impl.NewDesk(), impl.ValidDesk(impl.NewDesk()), impl.SameDesk(impl.NewDesk(), newDesk())), show(newDesk())+"true;true;")
}

func TestValidDesk(t *testing.T) {
	for k, d := range someDesks() {
		isShown(t, show("a desk", k), show(impl.ValidDesk(d)), "true;")
	}
	for k, d := range noDesks() {
		isShown(t, show("no desk", k), show(impl.ValidDesk(d)), "false;")
	}
	// Either part alone makes a desk that is not valid.
	for k, g := range invalidGrounds() {
		isShown(t, show("ground", k), show(impl.ValidDesk(deskOf(g, newDesk().Gather))), "false;")
	}
	for k, g := range noGathers() {
		isShown(t, show("gather", k), show(impl.ValidDesk(deskOf(newDesk().Ground, g))), "false;")
	}
}

func TestSameDesk(t *testing.T) {
	list := append(someDesks(), noDesks()...)
	texts := make([]string, len(list))
	for i, d := range list {
		texts[i] = show(d)
	}
	for i, a := range list {
		for j, b := range list {
			isShown(t, show(i, j), show(impl.SameDesk(a, b)), show(texts[i] == texts[j]))
		}
	}
}

// Desks that differ in one number at most, valid or not, for each kind of number that
// a desk has.
func TestSameDeskByNumber(t *testing.T) {
	places := map[string]func(d *impl.Desk) *float32{
		"thick":   func(d *impl.Desk) *float32 { return &d.Ground.Layers[0].Thick },
		"speed":   func(d *impl.Desk) *float32 { return &d.Ground.Layers[1].Speed },
		"density": func(d *impl.Desk) *float32 { return &d.Ground.Layers[1].Density },
		"loss":    func(d *impl.Desk) *float32 { return &d.Ground.Layers[0].Loss },
		"below":   func(d *impl.Desk) *float32 { return &d.Ground.Speed },
		"under":   func(d *impl.Desk) *float32 { return &d.Ground.Density },
		"place":   func(d *impl.Desk) *float32 { return &d.Gather.Places[1] },
		"trace":   func(d *impl.Desk) *float32 { return &d.Gather.Traces[1][2] },
	}
	kinds := append(someNumbers(), num(0xffc00000), num(0x7fc00001))
	for what, place := range places {
		for _, x := range kinds {
			for _, y := range kinds {
				a, b := deskOf(plainLayers(2), gatherBy(3, 2, 1)), deskOf(plainLayers(2), gatherBy(3, 2, 1))
				*place(&a), *place(&b) = x, y
				isShown(t, what+" "+word(x)+" "+word(y), show(impl.SameDesk(a, b)), show(word(x) == word(y)))
			}
		}
	}
}

func TestSameDeskBySize(t *testing.T) {
	base := deskOf(plainLayers(2), gatherOfSize(3, 2))
	for _, other := range []impl.Desk{deskOf(plainLayers(3), base.Gather), deskOf(plainLayers(1), base.Gather), deskOf(impl.Ground{Speed: 1, Density: 1}, base.Gather),
		deskOf(base.Ground, gatherOfSize(3, 3)), deskOf(base.Ground, gatherOfSize(2, 2)), deskOf(base.Ground, gatherOfSize(4, 2)), {}} {
		isShown(t, "other sizes", show(impl.SameDesk(base, other), impl.SameDesk(other, base)), "false;false;")
	}
	ticks := deskOf(plainLayers(2), gatherOfSize(3, 2))
	ticks.Gather.Ticks = 4
	isShown(t, "other ticks", show(impl.SameDesk(base, ticks), impl.SameDesk(ticks, base), impl.SameDesk(ticks, ticks)), "false;false;true;")
	empty := deskOf(impl.Ground{Layers: []impl.Layer{}}, impl.Gather{Places: []float32{}, Traces: [][]float32{}})
	isShown(t, "empty", show(impl.SameDesk(empty, impl.Desk{}), impl.SameDesk(impl.Desk{}, empty)), "true;true;")
}

// All functions with a desk fail for one that is not valid, whatever they are asked.
func TestDesksThatAreNotValid(t *testing.T) {
	journal, _ := impl.JournalOf([]string{"show", "sort"})
	for k, d := range noDesks() {
		what := show("no desk", k)
		for _, line := range []string{"", " ", "show", "traces", "what", "nothing", "ground " + groundWords(oneLayer()), "gather " + gatherWords(newDesk().Gather),
			"flat 1 3f800000", "thick 0 3f800000", "speed 0 3f800000", "thick 5 3f800000", "sort", "stack", "depths", "first 3f800000"} {
			isShown(t, what+line, show(impl.DeskCommand(d, line)), noOutput)
			isShown(t, what+line, show(impl.RunDesk(d, line+"\n")), noOutput)
		}
		for _, script := range []string{"", "\n", "show", "show\nshow\n"} {
			isShown(t, what+script, show(impl.RunDesk(d, script)), noOutput)
		}
		for _, text := range []string{"", journal, journal[:9], "show\n"} {
			isShown(t, what+text, show(impl.RunJournal(d, text)), noRun)
		}
	}
}
