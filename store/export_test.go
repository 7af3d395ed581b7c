package store

// SetNewest makes n the newest number, which no test could reach by calls in a
// reasonable time.
func (x *Store) SetNewest(n int) {
	x.newest = n
}
