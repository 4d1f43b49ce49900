package parse

import "bytes"

// queue has the bytes that were fed, and are not used up.
type queue struct {
	bytes []byte
	begin int // those ahead of it are used up
}

func (q *queue) all() []byte { return q.bytes[q.begin:] }

func (q *queue) add(b []byte) { q.bytes = append(q.bytes, b...) }

// use takes the first n away. What is left is copied only if it is no more than what was used up since the
// last copy: so all copies together are no more work than the feeding was, and the room of what is gone is
// not kept.
func (q *queue) use(n int) {
	q.begin += n
	if q.begin > len(q.bytes)/2 {
		q.bytes, q.begin = bytes.Clone(q.all()), 0
	}
}
