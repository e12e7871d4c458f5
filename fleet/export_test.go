package fleet

// Skip makes the sending end of a remote edge one at which so many messages more were put, all of which came in: no test can put so many.
func (f *Fleet) Skip(edge, messages int) {
	f.remotes[edge].put += messages
	f.remotes[edge].came += messages
}
