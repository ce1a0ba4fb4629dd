package lattice

// kept is what a call has worked out, each thing once: its number by what it was worked out of, itself by its number.
type kept[K comparable, V any] struct {
	numbers map[K]int
	values  []V
}

// number tells the number of what comes of a key, which is worked out if nobody has asked for it as yet.
func (k *kept[K, V]) number(key K, work func(K) V) int {
	number, ok := k.numbers[key]
	if !ok {
		value := work(key)
		number = len(k.values)
		k.numbers[key] = number
		k.values = append(k.values, value)
	}
	return number
}
