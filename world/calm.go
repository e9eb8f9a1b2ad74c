package world

const (
	maxUnits     = 1000
	maxDelivered = 5000 // letters of a unit
)

// Calm lets all be well for some units of time.
func (w *World) Calm(units int) {
	for range min(units, maxUnits) {
		for _, m := range w.members {
			w.wake(m)
		}
		for i, c := range w.clients {
			w.poll(i+1, c, true)
		}
		w.deliverAll()
	}
}

// wake lets a member have power, and time pass for it.
func (w *World) wake(m *member) {
	m.disk.Fail(0)
	if m.node == nil {
		m.crash(nil)
		w.start(m)
	}
	// Not up is one whose disk can't be opened, power or not.
	if m.node != nil {
		w.tick(m)
	}
}

// deliverAll delivers letters, also those that come of it.
func (w *World) deliverAll() {
	for range maxDelivered {
		if !w.deliver(0) {
			return
		}
	}
}
