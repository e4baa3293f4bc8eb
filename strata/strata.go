// Package strata: tables in files, column by column: see DOC.md.
package strata

import (
	"strata/api"
	"strata/footer"
	"strata/order"
	"strata/pack"
	"strata/runs"
	"strata/sum"
	"strata/table"
)

// Sum is a sum over bytes (P3).
func Sum(data []byte) uint32 { return sum.Checked(data) }

// Unpack unpacks bytes (P4).
func Unpack(data []byte, most int) ([]byte, api.Errno) { return pack.Unpack(data, most) }

// Runs reads numbers that are written in runs (P5).
func Runs(data []byte, width, count int) ([]int, int, api.Errno) {
	return runs.Read(data, width, count)
}

// Look reads a file's footer (P6).
func Look(data []byte) (api.Shape, api.Errno) { return footer.Look(data) }

// Read reads a file (P7).
func Read(data []byte, budget int) (api.Table, int, api.Errno) { return table.Read(data, budget) }

// Write writes a file (P8).
func Write(t api.Table, rows int) ([]byte, api.Errno) { return table.Write(t, rows) }

// Order tells the rows of a file in the order of a column (P9).
func Order(data []byte, column, budget int) ([]int, api.Errno) {
	return order.Of(data, column, budget)
}
