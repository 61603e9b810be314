package past

import "slices"

// keyed is l by key; of one key the last one.
func keyed[T any, K comparable](l []T, key func(T) K) map[K]T {
	m := make(map[K]T, len(l))
	for _, v := range l {
		m[key(v)] = v
	}
	return m
}

// sorted is l anew, rising by key; of one key in the order in which they stand.
func sorted[T, K any](l []T, key func(T) K, less func(a, b K) bool) []T {
	s := slices.Clone(l)
	slices.SortStableFunc(s, func(a, b T) int {
		return compared(key(a), key(b), less)
	})
	return s
}

// compared is less as the library asks for it: below 0, 0, or above 0.
func compared[K any](a, b K, less func(a, b K) bool) int {
	switch {
	case less(a, b):
		return -1
	case less(b, a):
		return 1
	default:
		return 0
	}
}
