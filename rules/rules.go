// Package rules has the tests of what holds for all functions that the chapters list, and nothing else.
package rules
