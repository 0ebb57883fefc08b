package machine

// stuck answers the names of the threads of the greatest set whose threads all
// wait for one of the set: what is left of all threads, when those that do not
// are taken out until there is none to be taken out.
func (m *machine) stuck() string {
	left := m.threads
	for round := 0; round < len(m.threads); round++ {
		left = m.waiting(left)
	}
	var names []byte
	for i := 0; i < len(left); i++ {
		names = append(names, byte('0'+left[i].name))
	}
	return string(names)
}

// waiting answers the threads of a set that wait for one of the set.
func (m *machine) waiting(set []thread) []thread {
	var left []thread
	for i := 0; i < len(set); i++ {
		s := m.upcoming(set[i])
		holder := m.awaited(s)
		inside := has(set, holder)
		if inside {
			left = append(left, set[i])
		}
	}
	return left
}

func has(set []thread, name int) bool {
	for i := 0; i < len(set); i++ {
		if set[i].name == name {
			return true
		}
	}
	return false
}
