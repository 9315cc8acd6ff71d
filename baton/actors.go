package baton

import (
	"dapple/api"
	"dapple/world"
)

// turn is the baton, as it is handed to an actor: the world, which is that actor's alone till it hands the baton back, and the
// place at which the actor stands among those that can go a step.
type turn struct {
	world *world.World
	place uint32
}

// begin lets each actor that has no goroutine yet have one. Threads come by Start, and by any step that is a spawn: it is asked
// behind each of both.
func (w *Baton) begin() {
	for len(w.turns) < 1+w.world.Threads() {
		turns := make(chan turn)
		w.turns = append(w.turns, turns)
		w.actors.Add(1)
		go func() {
			defer w.actors.Done()
			act(turns, w.told)
		}()
	}
}

// act goes a step whenever the baton is handed to this actor, till its channel is closed. It knows nothing of the world in
// between.
func act(turns <-chan turn, told chan<- api.Event) {
	for mine := range turns {
		step, _ := mine.world.Pick(mine.place)
		told <- step
	}
}
