package command

import "moot/api"

// Touches tells the keys that a command reads or writes.
func Touches(c api.Cmd) []api.Touch {
	switch c.Kind {
	case api.Get:
		return []api.Touch{reads(c.Key)}
	case api.Put, api.Del, api.Add, api.Cas:
		return []api.Touch{writes(c.Key)}
	case api.Move:
		return []api.Touch{writes(c.Key), writes(c.Key2)}
	case api.Copy:
		return []api.Touch{reads(c.Key), writes(c.Key2)}
	case api.Count:
		if c.Key < c.Key2 {
			return []api.Touch{{Key: c.Key, End: c.Key2}}
		}
	}
	return nil
}

// Conflict tells whether two commands touch one key, one of them writing it.
func Conflict(a, b api.Cmd) bool {
	others := Touches(b)
	for _, x := range Touches(a) {
		for _, y := range others {
			if (x.Write || y.Write) && meet(x, y) {
				return true
			}
		}
	}
	return false
}

// reads is the range of one key, for no text lies between a key and that key with a byte 0 behind it.
func reads(key string) api.Touch { return api.Touch{Key: key, End: key + "\x00"} }

func writes(key string) api.Touch {
	t := reads(key)
	t.Write = true
	return t
}

// meet tells whether a key lies in both ranges: if any does, then the higher one of their first keys.
func meet(x, y api.Touch) bool { return max(x.Key, y.Key) < min(x.End, y.End) }
