package tests

import (
	"os"
	"runtime/debug"
	"testing"
)

// The tests make much that is soon forgotten; looking through memory less often makes them quicker.
func TestMain(m *testing.M) {
	debug.SetGCPercent(800)
	os.Exit(m.Run())
}
