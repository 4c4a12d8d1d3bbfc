package source

import "slices"

// Arity returns how many numbers stand behind a key of a word, -1 if the word has no such key.
func Arity(word, key string) int {
	if !slices.Contains(keys(word), key) {
		return -1
	}
	return numbers(key)
}

// named reports whether a name stands behind a word.
func named(word string) bool {
	return word != "table"
}

// keys returns the keys of a word; a word that begins no statement has none.
func keys(word string) []string {
	switch word {
	case "table":
		return []string{"radius", "balls", "gravity", "drag", "rest", "trough"}
	case "wall", "gate", "target", "sling":
		return []string{"level", "from", "to", "rest", "grip", "kick", "min", "coil", "switch"}
	case "arc":
		return []string{"level", "center", "from", "to", "rest", "grip", "min", "switch"}
	case "post":
		return []string{"level", "center", "size", "rest", "grip", "kick", "min", "coil", "switch"}
	case "flipper":
		return []string{"level", "center", "length", "mirror", "range", "up", "down", "max", "rest", "grip", "coil", "switch"}
	case "zone":
		return []string{"level", "from", "to", "half", "coil"}
	case "saucer":
		return []string{"level", "center", "size", "limit", "out", "coil", "switch"}
	case "lane":
		return []string{"level", "center", "size", "switch"}
	case "ramp":
		return []string{"level", "into", "center", "size", "dir"}
	case "drain":
		return []string{"level", "center", "size"}
	case "launcher":
		return []string{"level", "center", "out", "coil"}
	}
	return nil
}

// numbers returns how many numbers stand behind a key. It does not depend on the word.
func numbers(key string) int {
	switch key {
	case "mirror":
		return 0
	case "gravity", "drag", "from", "to", "center", "range", "half", "out", "dir":
		return 2
	}
	return 1
}
