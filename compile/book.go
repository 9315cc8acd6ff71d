package compile

// book numbers things from 0 on, each once, in the order in which they are met first.
type book[T comparable] struct {
	numbers map[T]int
	list    []T
}

func newBook[T comparable]() book[T] {
	return book[T]{numbers: map[T]int{}}
}

// number is that of a thing, which is new or not.
func (b *book[T]) number(thing T) int {
	n, ok := b.numbers[thing]
	if !ok {
		n = len(b.list)
		b.numbers[thing] = n
		b.list = append(b.list, thing)
	}
	return n
}
