package link

// SenderAt makes a sending end at which so many messages were put and answered: no test can put all of them.
func SenderAt(lane, window, answered int) *Sender {
	return &Sender{end: end{lane, window}, answered: answered}
}

// ReceiverAt makes a receiving end that gave so many messages.
func ReceiverAt(lane, window, given int) *Receiver {
	return &Receiver{end: end{lane, window}, wanted: given + 1, kept: map[int][]byte{}}
}
