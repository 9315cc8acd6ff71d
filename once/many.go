package once

import (
	"sync"

	"dapple/api"
	"dapple/atoms"
)

// mayWork tells whether there can be so many goroutines.
func mayWork(workers int) bool { return workers >= 1 && workers <= api.MaxWorkers }

// byMany lets so many goroutines do things by their numbers, each of which is taken by one of them, till all have ended.
func byMany(workers, things int, do func(i int)) {
	next := atoms.NewTicket()
	// A function that is handed in may end the goroutine by which it is called: what is left then is for others.
	for next.Taken() < uint64(things) {
		var all sync.WaitGroup
		for range workers {
			all.Add(1)
			go func() {
				defer all.Done()
				for i := next.Take(); i < uint64(things); i = next.Take() {
					do(int(i))
				}
			}()
		}
		all.Wait()
	}
}
