package msg

import (
	"math"

	"scupper/api"
	"scupper/codec"
)

// kind is what is known of a kind of values. Its functions take pointers, so that a struct's kind can be made of the kinds of its fields, each bound to its place in the struct.
type kind[T any] struct {
	sound func(x *T) bool
	put   func(x *T) []byte
	get   func(x *T, b []byte, at int) (next int, ok bool) // into x, which is zero ahead of it
}

// write answers the bytes of x, or ErrForm.
func (k kind[T]) write(x T) ([]byte, api.Errno) {
	if !k.sound(&x) {
		return nil, api.ErrForm
	}
	return k.put(&x), api.OK
}

// read answers the sound value whose bytes are b, all of them, or ErrText.
func (k kind[T]) read(b []byte) (T, api.Errno) {
	var x, none T
	next, ok := k.get(&x, b, 0)
	if !ok || next != len(b) || !k.sound(&x) {
		return none, api.ErrText
	}
	return x, api.OK
}

// free asks nothing of a value.
func free[T any](*T) bool { return true }

// loose is the kind k of which nothing is asked: for fields of which only the struct around them can tell what may be.
func loose[T any](k kind[T]) kind[T] {
	k.sound = free[T]
	return k
}

// whole is the kind of numbers from least to most.
func whole[T ~int | ~int64 | ~uint64](least, most T) kind[T] {
	return kind[T]{
		sound: func(x *T) bool { return least <= *x && *x <= most },
		put:   func(x *T) []byte { return codec.PutNum(nil, uint64(*x)) },
		get: func(x *T, b []byte, at int) (int, bool) {
			n, next, e := codec.Num(b, at)
			*x = T(n)
			// Where an int is short, a long number must not be taken for the short one that is left of it.
			return next, e == api.OK && uint64(*x) == n
		},
	}
}

// number is the kind of all unsigned numbers.
func number() kind[uint64] { return whole[uint64](0, math.MaxUint64) }

// signed is the kind of all signed numbers.
func signed() kind[int64] { return whole[int64](math.MinInt64, math.MaxInt64) }

// flag is the kind of truth values.
func flag() kind[bool] {
	return kind[bool]{
		sound: free[bool],
		put: func(x *bool) []byte {
			if *x {
				return codec.PutNum(nil, 1)
			}
			return codec.PutNum(nil, 0)
		},
		get: func(x *bool, b []byte, at int) (int, bool) {
			n, next, e := codec.Num(b, at)
			*x = n == 1
			return next, e == api.OK && n <= 1
		},
	}
}

// run is the kind of texts, and of lists of bytes, that have at most so many bytes.
func run[T ~string | ~[]byte](most int) kind[T] {
	return kind[T]{
		sound: func(x *T) bool { return len(*x) <= most },
		put:   func(x *T) []byte { return codec.PutBytes(nil, []byte(*x)) },
		get: func(x *T, b []byte, at int) (int, bool) {
			data, next, e := codec.Bytes(b, at)
			if len(data) > 0 { // an empty list is answered as nil, like any other field that is not there
				*x = T(data)
			}
			return next, e == api.OK
		},
	}
}

// list is the kind of lists of at most so many items.
func list[T any](item kind[T], most int) kind[[]T] {
	return kind[[]T]{
		sound: func(x *[]T) bool {
			if len(*x) > most {
				return false
			}
			for i := range *x {
				if !item.sound(&(*x)[i]) {
					return false
				}
			}
			return true
		},
		put: func(x *[]T) []byte {
			out := codec.PutNum(nil, uint64(len(*x)))
			for i := range *x {
				out = append(out, item.put(&(*x)[i])...)
			}
			return out
		},
		get: func(x *[]T, b []byte, at int) (int, bool) {
			n, next, e := codec.Num(b, at)
			// Too many are refused ahead of reading any: bytes may tell of more than there is memory for.
			if e != api.OK || n > uint64(most) {
				return 0, false
			}
			for range n {
				var one T
				var ok bool
				if next, ok = item.get(&one, b, next); !ok {
					return 0, false
				}
				*x = append(*x, one)
			}
			return next, true
		},
	}
}

// field is the kind of those T of which the field that of points to is a k.
func field[T, F any](k kind[F], of func(x *T) *F) kind[T] {
	return kind[T]{
		sound: func(x *T) bool { return k.sound(of(x)) },
		put:   func(x *T) []byte { return k.put(of(x)) },
		get:   func(x *T, b []byte, at int) (int, bool) { return k.get(of(x), b, at) },
	}
}

// record is the kind of structs with these fields, one behind the other; tied tells what is asked of them together.
func record[T any](tied func(x *T) bool, fields ...kind[T]) kind[T] {
	return kind[T]{
		sound: func(x *T) bool {
			for _, f := range fields {
				if !f.sound(x) {
					return false
				}
			}
			return tied(x)
		},
		put: func(x *T) []byte {
			var out []byte
			for _, f := range fields {
				out = append(out, f.put(x)...)
			}
			return out
		},
		get: func(x *T, b []byte, at int) (int, bool) {
			for _, f := range fields {
				var ok bool
				if at, ok = f.get(x, b, at); !ok {
					return 0, false
				}
			}
			return at, true
		},
	}
}
