package keys

import "sync"

// mostWorkers is how many work at one time at most.
const mostWorkers = 16

// share does the things 0 to count - 1 by so many workers at one time, and answers when all are done. Who does which is laid down ahead, so that the workers need nothing of one another.
func share(count, workers int, do func(i int)) {
	workers = min(max(workers, 1), mostWorkers)
	var all sync.WaitGroup
	for first := range workers {
		all.Go(func() {
			for i := first; i < count; i += workers {
				do(i)
			}
		})
	}
	all.Wait()
}
