package samples

import (
	"testing"

	"furcate/api"
	"furcate/source"
)

// That the samples are of many kinds: they end, wait, fall in each way, and go on.
func TestManyKinds(t *testing.T) {
	ways := map[[2]int]int{}
	for n := range 3000 {
		m := New(n)
		src, p := m.Program()
		if again, _ := New(n).Program(); again != src {
			t.Fatal("not the same program of the same number")
		}
		s := source.Run(p, m.Inputs(6), api.MaxTime)
		ways[[2]int{s.Status, s.Trap}]++
	}
	for _, w := range [][2]int{{api.Runs, 0}, {api.Waits, 0}, {api.Ends, 0}, {api.Falls, api.TrapDiv}, {api.Falls, api.TrapIndex}, {api.Falls, api.TrapFrames}, {api.Falls, api.TrapCells}, {api.Falls, api.TrapOut}, {api.Falls, api.TrapLong}, {api.Falls, api.TrapSize}} {
		if ways[w] < 3 {
			t.Errorf("status %d, trap %d: %d programs", w[0], w[1], ways[w])
		}
	}
	t.Log(ways)
}
