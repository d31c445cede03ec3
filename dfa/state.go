package dfa

// state is what all ways have come to at a place.
type state struct {
	ways   []int    // the instructions at which they go on, the first ones ahead
	last   int      // what stands ahead of the place
	begins bool     // may ways still begin? The last of ways is then one that begins here.
	ended  bool     // did a way end well ahead of the last byte? Those behind it are given up.
	next   []*state // by the class of the byte there; nil, as long as none has asked
}

// key: states of one key are one.
func (s *state) key() string {
	key := make([]byte, 0, 3+4*len(s.ways))
	key = append(key, byte(s.last), flag(s.begins), flag(s.ended))
	for _, at := range s.ways {
		key = append(key, byte(at>>24), byte(at>>16), byte(at>>8), byte(at))
	}
	return string(key)
}

func flag(set bool) byte {
	if set {
		return 1
	}
	return 0
}
