package par

import "sync"

// byMany lets so many goroutines work, each told its place among them, till all have ended.
func byMany(workers int, work func(i int)) {
	var all sync.WaitGroup
	for i := range workers {
		all.Add(1)
		go func() {
			defer all.Done()
			work(i)
		}()
	}
	all.Wait()
}
