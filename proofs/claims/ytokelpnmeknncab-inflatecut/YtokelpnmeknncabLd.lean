/- Length and Distance of any number, the program's and the document's. -/
import Derived.Test.YtokelpnmeknncabRoom
import Derived.OwnWalk
namespace Go.Proofs.Ytokelpnmeknncab
open Go.RowKit

/-- How many bits more a length's symbol has; the least length. -/
def lb (s : Nat) : Nat := if s < 265 ∨ s = 285 then 0 else (s - 261) / 4
def ll : Nat → Nat
  | 0 => 3
  | s + 1 => ll s + 2 ^ lb (257 + s)
def lenN (s : Nat) : Nat := if s = 285 then 258 else ll (s - 257)
def db (s : Nat) : Nat := if s < 4 then 0 else s / 2 - 1
def dl : Nat → Nat
  | 0 => 1
  | s + 1 => dl s + 2 ^ db s

theorem len_out (x : Int) (w : World) (h : x < 257 ∨ 285 < x) : Calls Try.prog 16 #[.int .i64 x] w fun e w' => e = .returned (.tuple #[.int .i64 0, .int .i64 0, .bool false]) ∧ w' = w := by
  rcases h with h | h
  · go_enter Try.func16, Try.ntmps16
    go_wp2
    go_ret3
    exact ⟨rfl, rfl⟩
  · have h' : ¬ x < 257 := by omega
    go_enter Try.func16, Try.ntmps16
    go_wp2
    go_ret3
    exact ⟨rfl, rfl⟩

set_option maxRecDepth 10000 in
set_option maxHeartbeats 4000000 in
theorem len_in (x : Nat) (w : World) (h : 257 ≤ x) (h2 : x ≤ 285) : Calls Try.prog 16 #[.int .i64 (x : Nat)] w fun e w' => e = .returned (.tuple #[.int .i64 (lenN x : Nat), .int .i64 (lb x : Nat), .bool true]) ∧ w' = w := by
  have hx : x = 257 ∨ x = 258 ∨ x = 259 ∨ x = 260 ∨ x = 261 ∨ x = 262 ∨ x = 263 ∨ x = 264 ∨ x = 265 ∨ x = 266 ∨ x = 267 ∨ x = 268 ∨ x = 269 ∨ x = 270 ∨ x = 271 ∨ x = 272 ∨ x = 273 ∨ x = 274 ∨ x = 275 ∨ x = 276 ∨ x = 277 ∨ x = 278 ∨ x = 279 ∨ x = 280 ∨ x = 281 ∨ x = 282 ∨ x = 283 ∨ x = 284 ∨ x = 285 := by omega
  rcases hx with rfl | rfl | rfl | rfl | rfl | rfl | rfl | rfl | rfl | rfl | rfl | rfl | rfl | rfl | rfl | rfl | rfl | rfl | rfl | rfl | rfl | rfl | rfl | rfl | rfl | rfl | rfl | rfl | rfl
  all_goals
    go_enter Try.func16, Try.ntmps16
    go_wp2
    go_ret3
    exact ⟨rfl, rfl⟩

theorem dist_out (x : Int) (w : World) (h : x < 0 ∨ 30 ≤ x) : Calls Try.prog 18 #[.int .i64 x] w fun e w' => e = .returned (.tuple #[.int .i64 0, .int .i64 0, .bool false]) ∧ w' = w := by
  rcases h with h | h
  · go_enter Try.func18, Try.ntmps18
    go_wp2
    go_ret3
    exact ⟨rfl, rfl⟩
  · have h' : ¬ x < 0 := by omega
    go_enter Try.func18, Try.ntmps18
    go_wp2
    go_ret3
    exact ⟨rfl, rfl⟩

set_option maxRecDepth 10000 in
set_option maxHeartbeats 4000000 in
theorem dist_in (x : Nat) (w : World) (h2 : x ≤ 29) : Calls Try.prog 18 #[.int .i64 (x : Nat)] w fun e w' => e = .returned (.tuple #[.int .i64 (dl x : Nat), .int .i64 (db x : Nat), .bool true]) ∧ w' = w := by
  have hx : x = 0 ∨ x = 1 ∨ x = 2 ∨ x = 3 ∨ x = 4 ∨ x = 5 ∨ x = 6 ∨ x = 7 ∨ x = 8 ∨ x = 9 ∨ x = 10 ∨ x = 11 ∨ x = 12 ∨ x = 13 ∨ x = 14 ∨ x = 15 ∨ x = 16 ∨ x = 17 ∨ x = 18 ∨ x = 19 ∨ x = 20 ∨ x = 21 ∨ x = 22 ∨ x = 23 ∨ x = 24 ∨ x = 25 ∨ x = 26 ∨ x = 27 ∨ x = 28 ∨ x = 29 := by omega
  rcases hx with rfl | rfl | rfl | rfl | rfl | rfl | rfl | rfl | rfl | rfl | rfl | rfl | rfl | rfl | rfl | rfl | rfl | rfl | rfl | rfl | rfl | rfl | rfl | rfl | rfl | rfl | rfl | rfl | rfl | rfl
  all_goals
    go_enter Try.func18, Try.ntmps18
    go_wp2
    go_ret3
    exact ⟨rfl, rfl⟩
end Go.Proofs.Ytokelpnmeknncab
