/- Longer digits are a greater number; the digits of ten times a number are its own, and a 0 behind. For every two numbers of 64 bits, without a condition. -/
import Derived.Test.YtdddafhalcbhaaaHwG
import Derived.Test.YtdddafhalcbhaaaHwTL
namespace Go.Proofs.Ytdddafhalcbhaaa.wideText
open Go.ChangeShapes Go.WideShapes Go.ChangeAt Go.RowKit Go.Joins
set_option linter.unusedVariables false
set_option linter.unusedSimpArgs false

set_option maxRecDepth 100000 in
set_option maxHeartbeats 2000000 in
theorem walk_lt1 (a b : Int) (S T : ByteArray) (w : World) (ha : Is64 a) (hb : Is64 b) (TA : Hid (∀ w, Calls Try.prog 22 #[.agg #[.int .u64 0, .int .u64 a]] w fun e w' => e = .returned (.string S) ∧ Below w.heap.size w w'))
    (TB : Hid (∀ w, Calls Try.prog 22 #[.agg #[.int .u64 0, .int .u64 b]] w fun e w' => e = .returned (.string T) ∧ Below w.heap.size w w'))
    (TT : Hid (¬ a = 0 → ∀ w, Calls Try.prog 22 #[.agg #[.int .u64 (hi (a * 10)), .int .u64 (lo (a * 10))]] w fun e w' => e = .returned (.string (S ++ ⟨#[48]⟩)) ∧ Below w.heap.size w w'))
    (hs0 : 0 < S.size) (hs1 : S.size ≤ 41) (h : a < b) (f1 : S.size < T.size) :
    Calls Try.prog 8 #[.int .u64 a, .int .u64 b] w fun e w' => e = .returned (.bool true) ∧ Below w.heap.size w w' := by
  have M := Lib.hid (fun w => mul_any a 10 w ha (by unfold Is64; omega))
  have C := Lib.hid (fun w => cmp_lt 0 a 0 b w ha hb (by unfold V; omega))
  clear h
  clear ha hb
  go_enter Try.func8, Try.ntmps8
  go_wp2_with fail
  (with_reducible refine (awake_any _).mono ?_)
  rintro e w1 ⟨rfl, hb1⟩
  have bl : Below w.heap.size w w1 := by repeat (first | exact Below.refl _ _ | refine Below.trans ?_ (hb1.mono (by first | omega | (simp; done) | (simp; omega))) | refine Below.setCell ?_ (by first | omega | (simp; done) | (simp; omega)) _ | refine Below.alloc ?_ (by first | omega | (simp; done) | (simp; omega)) _ | refine Below.drew ?_)
  have zz := hb1.size
  try simp at zz
  have bn : w.heap.size ≤ w1.heap.size := by omega
  clear hb1 zz
  go_wp2_with fail
  (with_reducible refine (of_any _ _).mono ?_)
  rintro e w2 ⟨rfl, hb2⟩
  replace bl : Below w.heap.size w w2 := by repeat (first | exact bl | refine Below.trans ?_ (hb2.mono (by first | omega | (simp; done) | (simp; omega))) | refine Below.setCell ?_ (by first | omega | (simp; done) | (simp; omega)) _ | refine Below.alloc ?_ (by first | omega | (simp; done) | (simp; omega)) _ | refine Below.drew ?_)
  have zz := hb2.size
  try simp at zz
  replace bn : w.heap.size ≤ w2.heap.size := by omega
  clear hb2 zz
  go_wp2_with fail
  (with_reducible refine (TA.out _).mono ?_)
  rintro e w3 ⟨rfl, hb3⟩
  replace bl : Below w.heap.size w w3 := by repeat (first | exact bl | refine Below.trans ?_ (hb3.mono (by first | omega | (simp; done) | (simp; omega))) | refine Below.setCell ?_ (by first | omega | (simp; done) | (simp; omega)) _ | refine Below.alloc ?_ (by first | omega | (simp; done) | (simp; omega)) _ | refine Below.drew ?_)
  have zz := hb3.size
  try simp at zz
  replace bn : w.heap.size ≤ w3.heap.size := by omega
  clear hb3 zz
  go_wp2_with fail
  (with_reducible refine (of_any _ _).mono ?_)
  rintro e w4 ⟨rfl, hb4⟩
  replace bl : Below w.heap.size w w4 := by repeat (first | exact bl | refine Below.trans ?_ (hb4.mono (by first | omega | (simp; done) | (simp; omega))) | refine Below.setCell ?_ (by first | omega | (simp; done) | (simp; omega)) _ | refine Below.alloc ?_ (by first | omega | (simp; done) | (simp; omega)) _ | refine Below.drew ?_)
  have zz := hb4.size
  try simp at zz
  replace bn : w.heap.size ≤ w4.heap.size := by omega
  clear hb4 zz
  go_wp2_with fail
  (with_reducible refine (TB.out _).mono ?_)
  rintro e w5 ⟨rfl, hb5⟩
  replace bl : Below w.heap.size w w5 := by repeat (first | exact bl | refine Below.trans ?_ (hb5.mono (by first | omega | (simp; done) | (simp; omega))) | refine Below.setCell ?_ (by first | omega | (simp; done) | (simp; omega)) _ | refine Below.alloc ?_ (by first | omega | (simp; done) | (simp; omega)) _ | refine Below.drew ?_)
  have zz := hb5.size
  try simp at zz
  replace bn : w.heap.size ≤ w5.heap.size := by omega
  clear hb5 zz
  go_wp2_with fail
  (with_reducible refine (of_any _ _).mono ?_)
  rintro e w6 ⟨rfl, hb6⟩
  replace bl : Below w.heap.size w w6 := by repeat (first | exact bl | refine Below.trans ?_ (hb6.mono (by first | omega | (simp; done) | (simp; omega))) | refine Below.setCell ?_ (by first | omega | (simp; done) | (simp; omega)) _ | refine Below.alloc ?_ (by first | omega | (simp; done) | (simp; omega)) _ | refine Below.drew ?_)
  have zz := hb6.size
  try simp at zz
  replace bn : w.heap.size ≤ w6.heap.size := by omega
  clear hb6 zz
  go_wp2_with fail
  (with_reducible refine (of_any _ _).mono ?_)
  rintro e w7 ⟨rfl, hb7⟩
  replace bl : Below w.heap.size w w7 := by repeat (first | exact bl | refine Below.trans ?_ (hb7.mono (by first | omega | (simp; done) | (simp; omega))) | refine Below.setCell ?_ (by first | omega | (simp; done) | (simp; omega)) _ | refine Below.alloc ?_ (by first | omega | (simp; done) | (simp; omega)) _ | refine Below.drew ?_)
  have zz := hb7.size
  try simp at zz
  replace bn : w.heap.size ≤ w7.heap.size := by omega
  clear hb7 zz
  by_cases h0 : a = 0
  · have z : (a == 0) = true := by simpa using h0
    clear TT h0
    go_wp2_with fail
    (with_reducible refine (C.out _).mono ?_)
    rintro e w8 ⟨rfl, hb8⟩
    replace bl : Below w.heap.size w w8 := by repeat (first | exact bl | refine Below.trans ?_ (hb8.mono (by first | omega | (simp; done) | (simp; omega))) | refine Below.setCell ?_ (by first | omega | (simp; done) | (simp; omega)) _ | refine Below.alloc ?_ (by first | omega | (simp; done) | (simp; omega)) _ | refine Below.drew ?_)
    have zz := hb8.size
    try simp at zz
    replace bn : w.heap.size ≤ w8.heap.size := by omega
    clear hb8 zz
    go_wp2
    all_goals (go_ret; exact ⟨rfl, by repeat (first | exact bl | refine Below.setCell ?_ (by first | omega | (simp; done) | (simp; omega)) _ | refine Below.alloc ?_ (by first | omega | (simp; done) | (simp; omega)) _ | refine Below.drew ?_)⟩)
  · have TT' := Lib.hid (TT.out h0)
    have z : (a == 0) = false := by simpa using h0
    clear TT h0
    go_wp2_with fail
    (with_reducible refine (C.out _).mono ?_)
    rintro e w8 ⟨rfl, hb8⟩
    replace bl : Below w.heap.size w w8 := by repeat (first | exact bl | refine Below.trans ?_ (hb8.mono (by first | omega | (simp; done) | (simp; omega))) | refine Below.setCell ?_ (by first | omega | (simp; done) | (simp; omega)) _ | refine Below.alloc ?_ (by first | omega | (simp; done) | (simp; omega)) _ | refine Below.drew ?_)
    have zz := hb8.size
    try simp at zz
    replace bn : w.heap.size ≤ w8.heap.size := by omega
    clear hb8 zz
    go_wp2_with fail
    (with_reducible refine (M.out _).mono ?_)
    rintro e w9 ⟨rfl, hb9⟩
    replace bl : Below w.heap.size w w9 := by repeat (first | exact bl | refine Below.trans ?_ (hb9.mono (by first | omega | (simp; done) | (simp; omega))) | refine Below.setCell ?_ (by first | omega | (simp; done) | (simp; omega)) _ | refine Below.alloc ?_ (by first | omega | (simp; done) | (simp; omega)) _ | refine Below.drew ?_)
    have zz := hb9.size
    try simp at zz
    replace bn : w.heap.size ≤ w9.heap.size := by omega
    clear hb9 zz
    go_wp2_with fail
    (with_reducible refine (TT'.out _).mono ?_)
    rintro e w10 ⟨rfl, hb10⟩
    replace bl : Below w.heap.size w w10 := by repeat (first | exact bl | refine Below.trans ?_ (hb10.mono (by first | omega | (simp; done) | (simp; omega))) | refine Below.setCell ?_ (by first | omega | (simp; done) | (simp; omega)) _ | refine Below.alloc ?_ (by first | omega | (simp; done) | (simp; omega)) _ | refine Below.drew ?_)
    have zz := hb10.size
    try simp at zz
    replace bn : w.heap.size ≤ w10.heap.size := by omega
    clear hb10 zz
    go_wp2
    all_goals (go_ret; exact ⟨rfl, by repeat (first | exact bl | refine Below.setCell ?_ (by first | omega | (simp; done) | (simp; omega)) _ | refine Below.alloc ?_ (by first | omega | (simp; done) | (simp; omega)) _ | refine Below.drew ?_)⟩)
set_option maxRecDepth 100000 in
set_option maxHeartbeats 2000000 in
theorem walk_lt2 (a b : Int) (S T : ByteArray) (w : World) (ha : Is64 a) (hb : Is64 b) (TA : Hid (∀ w, Calls Try.prog 22 #[.agg #[.int .u64 0, .int .u64 a]] w fun e w' => e = .returned (.string S) ∧ Below w.heap.size w w'))
    (TB : Hid (∀ w, Calls Try.prog 22 #[.agg #[.int .u64 0, .int .u64 b]] w fun e w' => e = .returned (.string T) ∧ Below w.heap.size w w'))
    (TT : Hid (¬ a = 0 → ∀ w, Calls Try.prog 22 #[.agg #[.int .u64 (hi (a * 10)), .int .u64 (lo (a * 10))]] w fun e w' => e = .returned (.string (S ++ ⟨#[48]⟩)) ∧ Below w.heap.size w w'))
    (hs0 : 0 < S.size) (hs1 : S.size ≤ 41) (h : a < b) (f1 : T.size ≤ S.size) (f2 : (S.size : Int) = T.size) (f0 : 0 < T.size) (f3 : Op.bytesLess S.toList T.toList = true) :
    Calls Try.prog 8 #[.int .u64 a, .int .u64 b] w fun e w' => e = .returned (.bool true) ∧ Below w.heap.size w w' := by
  have M := Lib.hid (fun w => mul_any a 10 w ha (by unfold Is64; omega))
  have C := Lib.hid (fun w => cmp_lt 0 a 0 b w ha hb (by unfold V; omega))
  clear h
  clear ha hb
  go_enter Try.func8, Try.ntmps8
  go_wp2_with fail
  (with_reducible refine (awake_any _).mono ?_)
  rintro e w1 ⟨rfl, hb1⟩
  have bl : Below w.heap.size w w1 := by repeat (first | exact Below.refl _ _ | refine Below.trans ?_ (hb1.mono (by first | omega | (simp; done) | (simp; omega))) | refine Below.setCell ?_ (by first | omega | (simp; done) | (simp; omega)) _ | refine Below.alloc ?_ (by first | omega | (simp; done) | (simp; omega)) _ | refine Below.drew ?_)
  have zz := hb1.size
  try simp at zz
  have bn : w.heap.size ≤ w1.heap.size := by omega
  clear hb1 zz
  go_wp2_with fail
  (with_reducible refine (of_any _ _).mono ?_)
  rintro e w2 ⟨rfl, hb2⟩
  replace bl : Below w.heap.size w w2 := by repeat (first | exact bl | refine Below.trans ?_ (hb2.mono (by first | omega | (simp; done) | (simp; omega))) | refine Below.setCell ?_ (by first | omega | (simp; done) | (simp; omega)) _ | refine Below.alloc ?_ (by first | omega | (simp; done) | (simp; omega)) _ | refine Below.drew ?_)
  have zz := hb2.size
  try simp at zz
  replace bn : w.heap.size ≤ w2.heap.size := by omega
  clear hb2 zz
  go_wp2_with fail
  (with_reducible refine (TA.out _).mono ?_)
  rintro e w3 ⟨rfl, hb3⟩
  replace bl : Below w.heap.size w w3 := by repeat (first | exact bl | refine Below.trans ?_ (hb3.mono (by first | omega | (simp; done) | (simp; omega))) | refine Below.setCell ?_ (by first | omega | (simp; done) | (simp; omega)) _ | refine Below.alloc ?_ (by first | omega | (simp; done) | (simp; omega)) _ | refine Below.drew ?_)
  have zz := hb3.size
  try simp at zz
  replace bn : w.heap.size ≤ w3.heap.size := by omega
  clear hb3 zz
  go_wp2_with fail
  (with_reducible refine (of_any _ _).mono ?_)
  rintro e w4 ⟨rfl, hb4⟩
  replace bl : Below w.heap.size w w4 := by repeat (first | exact bl | refine Below.trans ?_ (hb4.mono (by first | omega | (simp; done) | (simp; omega))) | refine Below.setCell ?_ (by first | omega | (simp; done) | (simp; omega)) _ | refine Below.alloc ?_ (by first | omega | (simp; done) | (simp; omega)) _ | refine Below.drew ?_)
  have zz := hb4.size
  try simp at zz
  replace bn : w.heap.size ≤ w4.heap.size := by omega
  clear hb4 zz
  go_wp2_with fail
  (with_reducible refine (TB.out _).mono ?_)
  rintro e w5 ⟨rfl, hb5⟩
  replace bl : Below w.heap.size w w5 := by repeat (first | exact bl | refine Below.trans ?_ (hb5.mono (by first | omega | (simp; done) | (simp; omega))) | refine Below.setCell ?_ (by first | omega | (simp; done) | (simp; omega)) _ | refine Below.alloc ?_ (by first | omega | (simp; done) | (simp; omega)) _ | refine Below.drew ?_)
  have zz := hb5.size
  try simp at zz
  replace bn : w.heap.size ≤ w5.heap.size := by omega
  clear hb5 zz
  go_wp2_with fail
  (with_reducible refine (of_any _ _).mono ?_)
  rintro e w6 ⟨rfl, hb6⟩
  replace bl : Below w.heap.size w w6 := by repeat (first | exact bl | refine Below.trans ?_ (hb6.mono (by first | omega | (simp; done) | (simp; omega))) | refine Below.setCell ?_ (by first | omega | (simp; done) | (simp; omega)) _ | refine Below.alloc ?_ (by first | omega | (simp; done) | (simp; omega)) _ | refine Below.drew ?_)
  have zz := hb6.size
  try simp at zz
  replace bn : w.heap.size ≤ w6.heap.size := by omega
  clear hb6 zz
  go_wp2_with fail
  (with_reducible refine (of_any _ _).mono ?_)
  rintro e w7 ⟨rfl, hb7⟩
  replace bl : Below w.heap.size w w7 := by repeat (first | exact bl | refine Below.trans ?_ (hb7.mono (by first | omega | (simp; done) | (simp; omega))) | refine Below.setCell ?_ (by first | omega | (simp; done) | (simp; omega)) _ | refine Below.alloc ?_ (by first | omega | (simp; done) | (simp; omega)) _ | refine Below.drew ?_)
  have zz := hb7.size
  try simp at zz
  replace bn : w.heap.size ≤ w7.heap.size := by omega
  clear hb7 zz
  by_cases h0 : a = 0
  · have z : (a == 0) = true := by simpa using h0
    clear TT h0
    go_wp2_with fail
    (with_reducible refine (C.out _).mono ?_)
    rintro e w8 ⟨rfl, hb8⟩
    replace bl : Below w.heap.size w w8 := by repeat (first | exact bl | refine Below.trans ?_ (hb8.mono (by first | omega | (simp; done) | (simp; omega))) | refine Below.setCell ?_ (by first | omega | (simp; done) | (simp; omega)) _ | refine Below.alloc ?_ (by first | omega | (simp; done) | (simp; omega)) _ | refine Below.drew ?_)
    have zz := hb8.size
    try simp at zz
    replace bn : w.heap.size ≤ w8.heap.size := by omega
    clear hb8 zz
    go_wp2
    all_goals (go_ret; exact ⟨rfl, by repeat (first | exact bl | refine Below.setCell ?_ (by first | omega | (simp; done) | (simp; omega)) _ | refine Below.alloc ?_ (by first | omega | (simp; done) | (simp; omega)) _ | refine Below.drew ?_)⟩)
  · have TT' := Lib.hid (TT.out h0)
    have z : (a == 0) = false := by simpa using h0
    clear TT h0
    go_wp2_with fail
    (with_reducible refine (C.out _).mono ?_)
    rintro e w8 ⟨rfl, hb8⟩
    replace bl : Below w.heap.size w w8 := by repeat (first | exact bl | refine Below.trans ?_ (hb8.mono (by first | omega | (simp; done) | (simp; omega))) | refine Below.setCell ?_ (by first | omega | (simp; done) | (simp; omega)) _ | refine Below.alloc ?_ (by first | omega | (simp; done) | (simp; omega)) _ | refine Below.drew ?_)
    have zz := hb8.size
    try simp at zz
    replace bn : w.heap.size ≤ w8.heap.size := by omega
    clear hb8 zz
    go_wp2_with fail
    (with_reducible refine (M.out _).mono ?_)
    rintro e w9 ⟨rfl, hb9⟩
    replace bl : Below w.heap.size w w9 := by repeat (first | exact bl | refine Below.trans ?_ (hb9.mono (by first | omega | (simp; done) | (simp; omega))) | refine Below.setCell ?_ (by first | omega | (simp; done) | (simp; omega)) _ | refine Below.alloc ?_ (by first | omega | (simp; done) | (simp; omega)) _ | refine Below.drew ?_)
    have zz := hb9.size
    try simp at zz
    replace bn : w.heap.size ≤ w9.heap.size := by omega
    clear hb9 zz
    go_wp2_with fail
    (with_reducible refine (TT'.out _).mono ?_)
    rintro e w10 ⟨rfl, hb10⟩
    replace bl : Below w.heap.size w w10 := by repeat (first | exact bl | refine Below.trans ?_ (hb10.mono (by first | omega | (simp; done) | (simp; omega))) | refine Below.setCell ?_ (by first | omega | (simp; done) | (simp; omega)) _ | refine Below.alloc ?_ (by first | omega | (simp; done) | (simp; omega)) _ | refine Below.drew ?_)
    have zz := hb10.size
    try simp at zz
    replace bn : w.heap.size ≤ w10.heap.size := by omega
    clear hb10 zz
    go_wp2
    all_goals (go_ret; exact ⟨rfl, by repeat (first | exact bl | refine Below.setCell ?_ (by first | omega | (simp; done) | (simp; omega)) _ | refine Below.alloc ?_ (by first | omega | (simp; done) | (simp; omega)) _ | refine Below.drew ?_)⟩)
set_option maxRecDepth 100000 in
set_option maxHeartbeats 2000000 in
theorem walk_eq (a b : Int) (S T : ByteArray) (w : World) (ha : Is64 a) (hb : Is64 b) (TA : Hid (∀ w, Calls Try.prog 22 #[.agg #[.int .u64 0, .int .u64 a]] w fun e w' => e = .returned (.string S) ∧ Below w.heap.size w w'))
    (TB : Hid (∀ w, Calls Try.prog 22 #[.agg #[.int .u64 0, .int .u64 b]] w fun e w' => e = .returned (.string T) ∧ Below w.heap.size w w'))
    (TT : Hid (¬ a = 0 → ∀ w, Calls Try.prog 22 #[.agg #[.int .u64 (hi (a * 10)), .int .u64 (lo (a * 10))]] w fun e w' => e = .returned (.string (S ++ ⟨#[48]⟩)) ∧ Below w.heap.size w w'))
    (hs0 : 0 < S.size) (hs1 : S.size ≤ 41) (h : a = b) (f1 : T.size ≤ S.size) (f2 : (S.size : Int) = T.size) (f0 : 0 < T.size) (f3 : Op.bytesLess S.toList T.toList = false) (f4 : (S.toList == T.toList) = true) :
    Calls Try.prog 8 #[.int .u64 a, .int .u64 b] w fun e w' => e = .returned (.bool true) ∧ Below w.heap.size w w' := by
  have M := Lib.hid (fun w => mul_any a 10 w ha (by unfold Is64; omega))
  have C := Lib.hid (fun w => cmp_eq 0 a 0 b w ha hb (by unfold V; omega))
  clear h
  clear ha hb
  go_enter Try.func8, Try.ntmps8
  go_wp2_with fail
  (with_reducible refine (awake_any _).mono ?_)
  rintro e w1 ⟨rfl, hb1⟩
  have bl : Below w.heap.size w w1 := by repeat (first | exact Below.refl _ _ | refine Below.trans ?_ (hb1.mono (by first | omega | (simp; done) | (simp; omega))) | refine Below.setCell ?_ (by first | omega | (simp; done) | (simp; omega)) _ | refine Below.alloc ?_ (by first | omega | (simp; done) | (simp; omega)) _ | refine Below.drew ?_)
  have zz := hb1.size
  try simp at zz
  have bn : w.heap.size ≤ w1.heap.size := by omega
  clear hb1 zz
  go_wp2_with fail
  (with_reducible refine (of_any _ _).mono ?_)
  rintro e w2 ⟨rfl, hb2⟩
  replace bl : Below w.heap.size w w2 := by repeat (first | exact bl | refine Below.trans ?_ (hb2.mono (by first | omega | (simp; done) | (simp; omega))) | refine Below.setCell ?_ (by first | omega | (simp; done) | (simp; omega)) _ | refine Below.alloc ?_ (by first | omega | (simp; done) | (simp; omega)) _ | refine Below.drew ?_)
  have zz := hb2.size
  try simp at zz
  replace bn : w.heap.size ≤ w2.heap.size := by omega
  clear hb2 zz
  go_wp2_with fail
  (with_reducible refine (TA.out _).mono ?_)
  rintro e w3 ⟨rfl, hb3⟩
  replace bl : Below w.heap.size w w3 := by repeat (first | exact bl | refine Below.trans ?_ (hb3.mono (by first | omega | (simp; done) | (simp; omega))) | refine Below.setCell ?_ (by first | omega | (simp; done) | (simp; omega)) _ | refine Below.alloc ?_ (by first | omega | (simp; done) | (simp; omega)) _ | refine Below.drew ?_)
  have zz := hb3.size
  try simp at zz
  replace bn : w.heap.size ≤ w3.heap.size := by omega
  clear hb3 zz
  go_wp2_with fail
  (with_reducible refine (of_any _ _).mono ?_)
  rintro e w4 ⟨rfl, hb4⟩
  replace bl : Below w.heap.size w w4 := by repeat (first | exact bl | refine Below.trans ?_ (hb4.mono (by first | omega | (simp; done) | (simp; omega))) | refine Below.setCell ?_ (by first | omega | (simp; done) | (simp; omega)) _ | refine Below.alloc ?_ (by first | omega | (simp; done) | (simp; omega)) _ | refine Below.drew ?_)
  have zz := hb4.size
  try simp at zz
  replace bn : w.heap.size ≤ w4.heap.size := by omega
  clear hb4 zz
  go_wp2_with fail
  (with_reducible refine (TB.out _).mono ?_)
  rintro e w5 ⟨rfl, hb5⟩
  replace bl : Below w.heap.size w w5 := by repeat (first | exact bl | refine Below.trans ?_ (hb5.mono (by first | omega | (simp; done) | (simp; omega))) | refine Below.setCell ?_ (by first | omega | (simp; done) | (simp; omega)) _ | refine Below.alloc ?_ (by first | omega | (simp; done) | (simp; omega)) _ | refine Below.drew ?_)
  have zz := hb5.size
  try simp at zz
  replace bn : w.heap.size ≤ w5.heap.size := by omega
  clear hb5 zz
  go_wp2_with fail
  (with_reducible refine (of_any _ _).mono ?_)
  rintro e w6 ⟨rfl, hb6⟩
  replace bl : Below w.heap.size w w6 := by repeat (first | exact bl | refine Below.trans ?_ (hb6.mono (by first | omega | (simp; done) | (simp; omega))) | refine Below.setCell ?_ (by first | omega | (simp; done) | (simp; omega)) _ | refine Below.alloc ?_ (by first | omega | (simp; done) | (simp; omega)) _ | refine Below.drew ?_)
  have zz := hb6.size
  try simp at zz
  replace bn : w.heap.size ≤ w6.heap.size := by omega
  clear hb6 zz
  go_wp2_with fail
  (with_reducible refine (of_any _ _).mono ?_)
  rintro e w7 ⟨rfl, hb7⟩
  replace bl : Below w.heap.size w w7 := by repeat (first | exact bl | refine Below.trans ?_ (hb7.mono (by first | omega | (simp; done) | (simp; omega))) | refine Below.setCell ?_ (by first | omega | (simp; done) | (simp; omega)) _ | refine Below.alloc ?_ (by first | omega | (simp; done) | (simp; omega)) _ | refine Below.drew ?_)
  have zz := hb7.size
  try simp at zz
  replace bn : w.heap.size ≤ w7.heap.size := by omega
  clear hb7 zz
  by_cases h0 : a = 0
  · have z : (a == 0) = true := by simpa using h0
    clear TT h0
    go_wp2_with fail
    (with_reducible refine (C.out _).mono ?_)
    rintro e w8 ⟨rfl, hb8⟩
    replace bl : Below w.heap.size w w8 := by repeat (first | exact bl | refine Below.trans ?_ (hb8.mono (by first | omega | (simp; done) | (simp; omega))) | refine Below.setCell ?_ (by first | omega | (simp; done) | (simp; omega)) _ | refine Below.alloc ?_ (by first | omega | (simp; done) | (simp; omega)) _ | refine Below.drew ?_)
    have zz := hb8.size
    try simp at zz
    replace bn : w.heap.size ≤ w8.heap.size := by omega
    clear hb8 zz
    go_wp2
    all_goals (go_ret; exact ⟨rfl, by repeat (first | exact bl | refine Below.setCell ?_ (by first | omega | (simp; done) | (simp; omega)) _ | refine Below.alloc ?_ (by first | omega | (simp; done) | (simp; omega)) _ | refine Below.drew ?_)⟩)
  · have TT' := Lib.hid (TT.out h0)
    have z : (a == 0) = false := by simpa using h0
    clear TT h0
    go_wp2_with fail
    (with_reducible refine (C.out _).mono ?_)
    rintro e w8 ⟨rfl, hb8⟩
    replace bl : Below w.heap.size w w8 := by repeat (first | exact bl | refine Below.trans ?_ (hb8.mono (by first | omega | (simp; done) | (simp; omega))) | refine Below.setCell ?_ (by first | omega | (simp; done) | (simp; omega)) _ | refine Below.alloc ?_ (by first | omega | (simp; done) | (simp; omega)) _ | refine Below.drew ?_)
    have zz := hb8.size
    try simp at zz
    replace bn : w.heap.size ≤ w8.heap.size := by omega
    clear hb8 zz
    go_wp2_with fail
    (with_reducible refine (M.out _).mono ?_)
    rintro e w9 ⟨rfl, hb9⟩
    replace bl : Below w.heap.size w w9 := by repeat (first | exact bl | refine Below.trans ?_ (hb9.mono (by first | omega | (simp; done) | (simp; omega))) | refine Below.setCell ?_ (by first | omega | (simp; done) | (simp; omega)) _ | refine Below.alloc ?_ (by first | omega | (simp; done) | (simp; omega)) _ | refine Below.drew ?_)
    have zz := hb9.size
    try simp at zz
    replace bn : w.heap.size ≤ w9.heap.size := by omega
    clear hb9 zz
    go_wp2_with fail
    (with_reducible refine (TT'.out _).mono ?_)
    rintro e w10 ⟨rfl, hb10⟩
    replace bl : Below w.heap.size w w10 := by repeat (first | exact bl | refine Below.trans ?_ (hb10.mono (by first | omega | (simp; done) | (simp; omega))) | refine Below.setCell ?_ (by first | omega | (simp; done) | (simp; omega)) _ | refine Below.alloc ?_ (by first | omega | (simp; done) | (simp; omega)) _ | refine Below.drew ?_)
    have zz := hb10.size
    try simp at zz
    replace bn : w.heap.size ≤ w10.heap.size := by omega
    clear hb10 zz
    go_wp2
    all_goals (go_ret; exact ⟨rfl, by repeat (first | exact bl | refine Below.setCell ?_ (by first | omega | (simp; done) | (simp; omega)) _ | refine Below.alloc ?_ (by first | omega | (simp; done) | (simp; omega)) _ | refine Below.drew ?_)⟩)
set_option maxRecDepth 100000 in
set_option maxHeartbeats 2000000 in
theorem walk_gt1 (a b : Int) (S T : ByteArray) (w : World) (ha : Is64 a) (hb : Is64 b) (TA : Hid (∀ w, Calls Try.prog 22 #[.agg #[.int .u64 0, .int .u64 a]] w fun e w' => e = .returned (.string S) ∧ Below w.heap.size w w'))
    (TB : Hid (∀ w, Calls Try.prog 22 #[.agg #[.int .u64 0, .int .u64 b]] w fun e w' => e = .returned (.string T) ∧ Below w.heap.size w w'))
    (TT : Hid (¬ a = 0 → ∀ w, Calls Try.prog 22 #[.agg #[.int .u64 (hi (a * 10)), .int .u64 (lo (a * 10))]] w fun e w' => e = .returned (.string (S ++ ⟨#[48]⟩)) ∧ Below w.heap.size w w'))
    (hs0 : 0 < S.size) (hs1 : S.size ≤ 41) (h : b < a) (f1 : T.size ≤ S.size) (f2 : ¬ (S.size : Int) = T.size) (f3 : ¬ S.size < T.size) (f4 : (S.toList == T.toList) = false) :
    Calls Try.prog 8 #[.int .u64 a, .int .u64 b] w fun e w' => e = .returned (.bool true) ∧ Below w.heap.size w w' := by
  have M := Lib.hid (fun w => mul_any a 10 w ha (by unfold Is64; omega))
  have C := Lib.hid (fun w => cmp_gt 0 a 0 b w ha hb (by unfold V; omega))
  clear h
  clear ha hb
  go_enter Try.func8, Try.ntmps8
  go_wp2_with fail
  (with_reducible refine (awake_any _).mono ?_)
  rintro e w1 ⟨rfl, hb1⟩
  have bl : Below w.heap.size w w1 := by repeat (first | exact Below.refl _ _ | refine Below.trans ?_ (hb1.mono (by first | omega | (simp; done) | (simp; omega))) | refine Below.setCell ?_ (by first | omega | (simp; done) | (simp; omega)) _ | refine Below.alloc ?_ (by first | omega | (simp; done) | (simp; omega)) _ | refine Below.drew ?_)
  have zz := hb1.size
  try simp at zz
  have bn : w.heap.size ≤ w1.heap.size := by omega
  clear hb1 zz
  go_wp2_with fail
  (with_reducible refine (of_any _ _).mono ?_)
  rintro e w2 ⟨rfl, hb2⟩
  replace bl : Below w.heap.size w w2 := by repeat (first | exact bl | refine Below.trans ?_ (hb2.mono (by first | omega | (simp; done) | (simp; omega))) | refine Below.setCell ?_ (by first | omega | (simp; done) | (simp; omega)) _ | refine Below.alloc ?_ (by first | omega | (simp; done) | (simp; omega)) _ | refine Below.drew ?_)
  have zz := hb2.size
  try simp at zz
  replace bn : w.heap.size ≤ w2.heap.size := by omega
  clear hb2 zz
  go_wp2_with fail
  (with_reducible refine (TA.out _).mono ?_)
  rintro e w3 ⟨rfl, hb3⟩
  replace bl : Below w.heap.size w w3 := by repeat (first | exact bl | refine Below.trans ?_ (hb3.mono (by first | omega | (simp; done) | (simp; omega))) | refine Below.setCell ?_ (by first | omega | (simp; done) | (simp; omega)) _ | refine Below.alloc ?_ (by first | omega | (simp; done) | (simp; omega)) _ | refine Below.drew ?_)
  have zz := hb3.size
  try simp at zz
  replace bn : w.heap.size ≤ w3.heap.size := by omega
  clear hb3 zz
  go_wp2_with fail
  (with_reducible refine (of_any _ _).mono ?_)
  rintro e w4 ⟨rfl, hb4⟩
  replace bl : Below w.heap.size w w4 := by repeat (first | exact bl | refine Below.trans ?_ (hb4.mono (by first | omega | (simp; done) | (simp; omega))) | refine Below.setCell ?_ (by first | omega | (simp; done) | (simp; omega)) _ | refine Below.alloc ?_ (by first | omega | (simp; done) | (simp; omega)) _ | refine Below.drew ?_)
  have zz := hb4.size
  try simp at zz
  replace bn : w.heap.size ≤ w4.heap.size := by omega
  clear hb4 zz
  go_wp2_with fail
  (with_reducible refine (TB.out _).mono ?_)
  rintro e w5 ⟨rfl, hb5⟩
  replace bl : Below w.heap.size w w5 := by repeat (first | exact bl | refine Below.trans ?_ (hb5.mono (by first | omega | (simp; done) | (simp; omega))) | refine Below.setCell ?_ (by first | omega | (simp; done) | (simp; omega)) _ | refine Below.alloc ?_ (by first | omega | (simp; done) | (simp; omega)) _ | refine Below.drew ?_)
  have zz := hb5.size
  try simp at zz
  replace bn : w.heap.size ≤ w5.heap.size := by omega
  clear hb5 zz
  go_wp2_with fail
  (with_reducible refine (of_any _ _).mono ?_)
  rintro e w6 ⟨rfl, hb6⟩
  replace bl : Below w.heap.size w w6 := by repeat (first | exact bl | refine Below.trans ?_ (hb6.mono (by first | omega | (simp; done) | (simp; omega))) | refine Below.setCell ?_ (by first | omega | (simp; done) | (simp; omega)) _ | refine Below.alloc ?_ (by first | omega | (simp; done) | (simp; omega)) _ | refine Below.drew ?_)
  have zz := hb6.size
  try simp at zz
  replace bn : w.heap.size ≤ w6.heap.size := by omega
  clear hb6 zz
  go_wp2_with fail
  (with_reducible refine (of_any _ _).mono ?_)
  rintro e w7 ⟨rfl, hb7⟩
  replace bl : Below w.heap.size w w7 := by repeat (first | exact bl | refine Below.trans ?_ (hb7.mono (by first | omega | (simp; done) | (simp; omega))) | refine Below.setCell ?_ (by first | omega | (simp; done) | (simp; omega)) _ | refine Below.alloc ?_ (by first | omega | (simp; done) | (simp; omega)) _ | refine Below.drew ?_)
  have zz := hb7.size
  try simp at zz
  replace bn : w.heap.size ≤ w7.heap.size := by omega
  clear hb7 zz
  by_cases h0 : a = 0
  · have z : (a == 0) = true := by simpa using h0
    clear TT h0
    go_wp2_with fail
    (with_reducible refine (C.out _).mono ?_)
    rintro e w8 ⟨rfl, hb8⟩
    replace bl : Below w.heap.size w w8 := by repeat (first | exact bl | refine Below.trans ?_ (hb8.mono (by first | omega | (simp; done) | (simp; omega))) | refine Below.setCell ?_ (by first | omega | (simp; done) | (simp; omega)) _ | refine Below.alloc ?_ (by first | omega | (simp; done) | (simp; omega)) _ | refine Below.drew ?_)
    have zz := hb8.size
    try simp at zz
    replace bn : w.heap.size ≤ w8.heap.size := by omega
    clear hb8 zz
    go_wp2
    all_goals (go_ret; exact ⟨rfl, by repeat (first | exact bl | refine Below.setCell ?_ (by first | omega | (simp; done) | (simp; omega)) _ | refine Below.alloc ?_ (by first | omega | (simp; done) | (simp; omega)) _ | refine Below.drew ?_)⟩)
  · have TT' := Lib.hid (TT.out h0)
    have z : (a == 0) = false := by simpa using h0
    clear TT h0
    go_wp2_with fail
    (with_reducible refine (C.out _).mono ?_)
    rintro e w8 ⟨rfl, hb8⟩
    replace bl : Below w.heap.size w w8 := by repeat (first | exact bl | refine Below.trans ?_ (hb8.mono (by first | omega | (simp; done) | (simp; omega))) | refine Below.setCell ?_ (by first | omega | (simp; done) | (simp; omega)) _ | refine Below.alloc ?_ (by first | omega | (simp; done) | (simp; omega)) _ | refine Below.drew ?_)
    have zz := hb8.size
    try simp at zz
    replace bn : w.heap.size ≤ w8.heap.size := by omega
    clear hb8 zz
    go_wp2_with fail
    (with_reducible refine (M.out _).mono ?_)
    rintro e w9 ⟨rfl, hb9⟩
    replace bl : Below w.heap.size w w9 := by repeat (first | exact bl | refine Below.trans ?_ (hb9.mono (by first | omega | (simp; done) | (simp; omega))) | refine Below.setCell ?_ (by first | omega | (simp; done) | (simp; omega)) _ | refine Below.alloc ?_ (by first | omega | (simp; done) | (simp; omega)) _ | refine Below.drew ?_)
    have zz := hb9.size
    try simp at zz
    replace bn : w.heap.size ≤ w9.heap.size := by omega
    clear hb9 zz
    go_wp2_with fail
    (with_reducible refine (TT'.out _).mono ?_)
    rintro e w10 ⟨rfl, hb10⟩
    replace bl : Below w.heap.size w w10 := by repeat (first | exact bl | refine Below.trans ?_ (hb10.mono (by first | omega | (simp; done) | (simp; omega))) | refine Below.setCell ?_ (by first | omega | (simp; done) | (simp; omega)) _ | refine Below.alloc ?_ (by first | omega | (simp; done) | (simp; omega)) _ | refine Below.drew ?_)
    have zz := hb10.size
    try simp at zz
    replace bn : w.heap.size ≤ w10.heap.size := by omega
    clear hb10 zz
    go_wp2
    all_goals (go_ret; exact ⟨rfl, by repeat (first | exact bl | refine Below.setCell ?_ (by first | omega | (simp; done) | (simp; omega)) _ | refine Below.alloc ?_ (by first | omega | (simp; done) | (simp; omega)) _ | refine Below.drew ?_)⟩)
set_option maxRecDepth 100000 in
set_option maxHeartbeats 2000000 in
theorem walk_gt2 (a b : Int) (S T : ByteArray) (w : World) (ha : Is64 a) (hb : Is64 b) (TA : Hid (∀ w, Calls Try.prog 22 #[.agg #[.int .u64 0, .int .u64 a]] w fun e w' => e = .returned (.string S) ∧ Below w.heap.size w w'))
    (TB : Hid (∀ w, Calls Try.prog 22 #[.agg #[.int .u64 0, .int .u64 b]] w fun e w' => e = .returned (.string T) ∧ Below w.heap.size w w'))
    (TT : Hid (¬ a = 0 → ∀ w, Calls Try.prog 22 #[.agg #[.int .u64 (hi (a * 10)), .int .u64 (lo (a * 10))]] w fun e w' => e = .returned (.string (S ++ ⟨#[48]⟩)) ∧ Below w.heap.size w w'))
    (hs0 : 0 < S.size) (hs1 : S.size ≤ 41) (h : b < a) (f1 : T.size ≤ S.size) (f2 : (S.size : Int) = T.size) (f0 : 0 < T.size) (f3 : Op.bytesLess S.toList T.toList = false) (f4 : (S.toList == T.toList) = false) :
    Calls Try.prog 8 #[.int .u64 a, .int .u64 b] w fun e w' => e = .returned (.bool true) ∧ Below w.heap.size w w' := by
  have M := Lib.hid (fun w => mul_any a 10 w ha (by unfold Is64; omega))
  have C := Lib.hid (fun w => cmp_gt 0 a 0 b w ha hb (by unfold V; omega))
  clear h
  clear ha hb
  go_enter Try.func8, Try.ntmps8
  go_wp2_with fail
  (with_reducible refine (awake_any _).mono ?_)
  rintro e w1 ⟨rfl, hb1⟩
  have bl : Below w.heap.size w w1 := by repeat (first | exact Below.refl _ _ | refine Below.trans ?_ (hb1.mono (by first | omega | (simp; done) | (simp; omega))) | refine Below.setCell ?_ (by first | omega | (simp; done) | (simp; omega)) _ | refine Below.alloc ?_ (by first | omega | (simp; done) | (simp; omega)) _ | refine Below.drew ?_)
  have zz := hb1.size
  try simp at zz
  have bn : w.heap.size ≤ w1.heap.size := by omega
  clear hb1 zz
  go_wp2_with fail
  (with_reducible refine (of_any _ _).mono ?_)
  rintro e w2 ⟨rfl, hb2⟩
  replace bl : Below w.heap.size w w2 := by repeat (first | exact bl | refine Below.trans ?_ (hb2.mono (by first | omega | (simp; done) | (simp; omega))) | refine Below.setCell ?_ (by first | omega | (simp; done) | (simp; omega)) _ | refine Below.alloc ?_ (by first | omega | (simp; done) | (simp; omega)) _ | refine Below.drew ?_)
  have zz := hb2.size
  try simp at zz
  replace bn : w.heap.size ≤ w2.heap.size := by omega
  clear hb2 zz
  go_wp2_with fail
  (with_reducible refine (TA.out _).mono ?_)
  rintro e w3 ⟨rfl, hb3⟩
  replace bl : Below w.heap.size w w3 := by repeat (first | exact bl | refine Below.trans ?_ (hb3.mono (by first | omega | (simp; done) | (simp; omega))) | refine Below.setCell ?_ (by first | omega | (simp; done) | (simp; omega)) _ | refine Below.alloc ?_ (by first | omega | (simp; done) | (simp; omega)) _ | refine Below.drew ?_)
  have zz := hb3.size
  try simp at zz
  replace bn : w.heap.size ≤ w3.heap.size := by omega
  clear hb3 zz
  go_wp2_with fail
  (with_reducible refine (of_any _ _).mono ?_)
  rintro e w4 ⟨rfl, hb4⟩
  replace bl : Below w.heap.size w w4 := by repeat (first | exact bl | refine Below.trans ?_ (hb4.mono (by first | omega | (simp; done) | (simp; omega))) | refine Below.setCell ?_ (by first | omega | (simp; done) | (simp; omega)) _ | refine Below.alloc ?_ (by first | omega | (simp; done) | (simp; omega)) _ | refine Below.drew ?_)
  have zz := hb4.size
  try simp at zz
  replace bn : w.heap.size ≤ w4.heap.size := by omega
  clear hb4 zz
  go_wp2_with fail
  (with_reducible refine (TB.out _).mono ?_)
  rintro e w5 ⟨rfl, hb5⟩
  replace bl : Below w.heap.size w w5 := by repeat (first | exact bl | refine Below.trans ?_ (hb5.mono (by first | omega | (simp; done) | (simp; omega))) | refine Below.setCell ?_ (by first | omega | (simp; done) | (simp; omega)) _ | refine Below.alloc ?_ (by first | omega | (simp; done) | (simp; omega)) _ | refine Below.drew ?_)
  have zz := hb5.size
  try simp at zz
  replace bn : w.heap.size ≤ w5.heap.size := by omega
  clear hb5 zz
  go_wp2_with fail
  (with_reducible refine (of_any _ _).mono ?_)
  rintro e w6 ⟨rfl, hb6⟩
  replace bl : Below w.heap.size w w6 := by repeat (first | exact bl | refine Below.trans ?_ (hb6.mono (by first | omega | (simp; done) | (simp; omega))) | refine Below.setCell ?_ (by first | omega | (simp; done) | (simp; omega)) _ | refine Below.alloc ?_ (by first | omega | (simp; done) | (simp; omega)) _ | refine Below.drew ?_)
  have zz := hb6.size
  try simp at zz
  replace bn : w.heap.size ≤ w6.heap.size := by omega
  clear hb6 zz
  go_wp2_with fail
  (with_reducible refine (of_any _ _).mono ?_)
  rintro e w7 ⟨rfl, hb7⟩
  replace bl : Below w.heap.size w w7 := by repeat (first | exact bl | refine Below.trans ?_ (hb7.mono (by first | omega | (simp; done) | (simp; omega))) | refine Below.setCell ?_ (by first | omega | (simp; done) | (simp; omega)) _ | refine Below.alloc ?_ (by first | omega | (simp; done) | (simp; omega)) _ | refine Below.drew ?_)
  have zz := hb7.size
  try simp at zz
  replace bn : w.heap.size ≤ w7.heap.size := by omega
  clear hb7 zz
  by_cases h0 : a = 0
  · have z : (a == 0) = true := by simpa using h0
    clear TT h0
    go_wp2_with fail
    (with_reducible refine (C.out _).mono ?_)
    rintro e w8 ⟨rfl, hb8⟩
    replace bl : Below w.heap.size w w8 := by repeat (first | exact bl | refine Below.trans ?_ (hb8.mono (by first | omega | (simp; done) | (simp; omega))) | refine Below.setCell ?_ (by first | omega | (simp; done) | (simp; omega)) _ | refine Below.alloc ?_ (by first | omega | (simp; done) | (simp; omega)) _ | refine Below.drew ?_)
    have zz := hb8.size
    try simp at zz
    replace bn : w.heap.size ≤ w8.heap.size := by omega
    clear hb8 zz
    go_wp2
    all_goals (go_ret; exact ⟨rfl, by repeat (first | exact bl | refine Below.setCell ?_ (by first | omega | (simp; done) | (simp; omega)) _ | refine Below.alloc ?_ (by first | omega | (simp; done) | (simp; omega)) _ | refine Below.drew ?_)⟩)
  · have TT' := Lib.hid (TT.out h0)
    have z : (a == 0) = false := by simpa using h0
    clear TT h0
    go_wp2_with fail
    (with_reducible refine (C.out _).mono ?_)
    rintro e w8 ⟨rfl, hb8⟩
    replace bl : Below w.heap.size w w8 := by repeat (first | exact bl | refine Below.trans ?_ (hb8.mono (by first | omega | (simp; done) | (simp; omega))) | refine Below.setCell ?_ (by first | omega | (simp; done) | (simp; omega)) _ | refine Below.alloc ?_ (by first | omega | (simp; done) | (simp; omega)) _ | refine Below.drew ?_)
    have zz := hb8.size
    try simp at zz
    replace bn : w.heap.size ≤ w8.heap.size := by omega
    clear hb8 zz
    go_wp2_with fail
    (with_reducible refine (M.out _).mono ?_)
    rintro e w9 ⟨rfl, hb9⟩
    replace bl : Below w.heap.size w w9 := by repeat (first | exact bl | refine Below.trans ?_ (hb9.mono (by first | omega | (simp; done) | (simp; omega))) | refine Below.setCell ?_ (by first | omega | (simp; done) | (simp; omega)) _ | refine Below.alloc ?_ (by first | omega | (simp; done) | (simp; omega)) _ | refine Below.drew ?_)
    have zz := hb9.size
    try simp at zz
    replace bn : w.heap.size ≤ w9.heap.size := by omega
    clear hb9 zz
    go_wp2_with fail
    (with_reducible refine (TT'.out _).mono ?_)
    rintro e w10 ⟨rfl, hb10⟩
    replace bl : Below w.heap.size w w10 := by repeat (first | exact bl | refine Below.trans ?_ (hb10.mono (by first | omega | (simp; done) | (simp; omega))) | refine Below.setCell ?_ (by first | omega | (simp; done) | (simp; omega)) _ | refine Below.alloc ?_ (by first | omega | (simp; done) | (simp; omega)) _ | refine Below.drew ?_)
    have zz := hb10.size
    try simp at zz
    replace bn : w.heap.size ≤ w10.heap.size := by omega
    clear hb10 zz
    go_wp2
    all_goals (go_ret; exact ⟨rfl, by repeat (first | exact bl | refine Below.setCell ?_ (by first | omega | (simp; done) | (simp; omega)) _ | refine Below.alloc ?_ (by first | omega | (simp; done) | (simp; omega)) _ | refine Below.drew ?_)⟩)
theorem text_of (n : Nat) (hn : n < 18446744073709551616) : Hid (∀ w, Calls Try.prog 22 #[.agg #[.int .u64 0, .int .u64 (n : Int)]] w fun e w' => e = .returned (.string (dec n)) ∧ Below w.heap.size w w') :=
  Lib.hid fun w => text_any 0 n n w (by unfold Is64; omega) (by unfold Is64; omega) (by unfold V; omega)
theorem text_ten (n : Nat) (hn : n < 18446744073709551616) : Hid (¬ (n : Int) = 0 → ∀ w, Calls Try.prog 22 #[.agg #[.int .u64 (hi ((n : Int) * 10)), .int .u64 (lo ((n : Int) * 10))]] w fun e w' => e = .returned (.string (dec n ++ ⟨#[48]⟩)) ∧ Below w.heap.size w w') :=
  Lib.hid fun h0 w => by
    have := text_any (hi ((n : Int) * 10)) (lo ((n : Int) * 10)) (n * 10) w (is64_hi (by unfold Is128; omega)) (is64_lo _) (by rw [V_hi_lo]; omega)
    rw [dec_ten (by omega) (Nat.lt_of_lt_of_le (show n * 10 < 184467440737095516160 by omega) (by decide))] at this
    exact this
theorem walk (a b : Int) (w : World) (ha : Is64 a) (hb : Is64 b) :
    Calls Try.prog 8 #[.int .u64 a, .int .u64 b] w fun e w' => e = .returned (.bool true) ∧ Below w.heap.size w w' := by
  obtain ⟨n, rfl⟩ := Int.eq_ofNat_of_zero_le ha.1
  obtain ⟨m, rfl⟩ := Int.eq_ofNat_of_zero_le hb.1
  have hn : n < 18446744073709551616 := by unfold Is64 at ha; omega
  have hm : m < 18446744073709551616 := by unfold Is64 at hb; omega
  have n41 : n < 10 ^ 41 := Nat.lt_of_lt_of_le hn (by decide)
  have m41 : m < 10 ^ 41 := Nat.lt_of_lt_of_le hm (by decide)
  have TA := text_of n hn
  have TB := text_of m hm
  have TT := text_ten n hn
  have s0 : 0 < (dec n).size := by rw [dec_size]; exact ndig_pos n
  have s1 : (dec n).size ≤ 41 := by
    rw [dec_size]
    rcases Nat.lt_or_ge 41 (ndig n) with h | h
    · exfalso
      obtain ⟨-, h2⟩ := ndig_spec n41
      rcases h2 with h2 | h2
      · omega
      · have : 10 ^ 41 ≤ 10 ^ (ndig n - 1) := Nat.pow_le_pow_right (by decide) (by omega)
        omega
    · exact h
  rcases Nat.lt_trichotomy n m with h | h | h
  · rcases dec_lt h m41 with h1 | ⟨h1, h2⟩
    · exact walk_lt1 n m _ _ w ha hb TA TB TT s0 s1 (by omega) h1
    · exact walk_lt2 n m _ _ w ha hb TA TB TT s0 s1 (by omega) (by omega) (by omega) (by omega) h2
  · subst h
    exact walk_eq n n _ _ w ha hb TA TB TT s0 s1 rfl (Nat.le_refl _) rfl s0 (bytesLess_self _) (by simp)
  · have hne : ((dec n).toList == (dec m).toList) = false := by
      have := dec_ne h n41
      simp only [beq_eq_false_iff_ne, ne_eq]
      exact fun e => this e.symm
    rcases dec_gt h n41 with h1 | ⟨h1, h2⟩
    · exact walk_gt1 n m _ _ w ha hb TA TB TT s0 s1 (by omega) (by omega) (by omega) (by omega) hne
    · exact walk_gt2 n m _ _ w ha hb TA TB TT s0 s1 (by omega) (by omega) (by omega) (by omega) h2 hne

set_option maxRecDepth 100000 in
theorem lifted (os : Os) (started : os.Started) (H : Type) (enc : TypeId × Value → H) :
    ReturnsInHanded {} Try.checked os 8 .any (Rows.wideTextSpec.pre6 enc Try.prog Try.f8 Rows.wideTextRow.domain false) (Rows.wideTextSpec.post enc Try.prog Try.f8 false true false false) := by
  refine returnsInHanded_of_change (C := Try.checked) own started (by kernel_rfl) Try.func8
    (ChangeSpec.witness6 (enc := enc) (C := Try.checked) false ⟨#[], #[.int .u64 0, .int .u64 0], []⟩ 8 (by kernel_rfl) (by kernel_rfl) (by kernel_rfl) (by kernel_rfl)) ?_
  intro W base args ds gs before hval0 hW hcnd _
  have hval : ∀ (j : Nat) t v, Try.f8.params[j]? = some t → args[j]? = some v → Value.okWide Try.prog W .any base t v := hval0
  have hW' := hW
  obtain ⟨p, q, hA0, hV, rfl, hfz, hnd⟩ := hW
  have hA : DataW.TrodAll enc Try.prog W 0 (fun _ => true) true Try.f8.params.toList args.toList ds p := hA0
  rw [Try.params8] at hA hval
  obtain ⟨v0, vs0, d0, ds0, p0, q0, hargs, rfl, rfl, h0, r0⟩ := trodAll_cons hA
  obtain ⟨v1, vs1, d1, ds1, p1, q1, rfl, rfl, rfl, h1, r1⟩ := trodAll_cons r0
  obtain ⟨rfl, rfl, rfl⟩ := trodAll_nil r1
  obtain rfl : args = #[v0, v1] := by cases args; simp_all
  obtain ⟨rfl, rfl⟩ := trodVars_none hV
  have lt0 : ∀ x ∈ p0, x.block < W.heap.size := by obtain ⟨m, hm⟩ := h0; exact DataW.trod_lt m _ _ _ hm
  obtain ⟨a, e0, -, -, wfa⟩ := open_int Try.underlying22 (hval 0 22 v0 rfl rfl) h0
  subst e0
  have wa := is64_wf wfa
  have lt1 : ∀ x ∈ p1, x.block < W.heap.size := by obtain ⟨m, hm⟩ := h1; exact DataW.trod_lt m _ _ _ hm
  obtain ⟨b, e1, -, -, wfb⟩ := open_int Try.underlying22 (hval 1 22 v1 rfl rfl) h1
  subst e1
  have wb := is64_wf wfb
  clear hA0 hval0
  refine (walk a b W wa wb).mono fun e W' ⟨he, bel⟩ => ?_
  subst he
  exact ⟨_, rfl, _, _, _, [], _, [], hW', trodAll_mk1 (shut_bool Try.underlying4 _), (trodAll_cons_mk (Below.trod laidOut (by kernel_rfl) (of_decide_eq_true (by kernel_rfl)) h0 bel lt0) (trodAll_cons_mk (Below.trod laidOut (by kernel_rfl) (of_decide_eq_true (by kernel_rfl)) h1 bel lt1) trodAll_mk0)), rfl, bel.frame _, fun h => by cases h⟩

theorem proved : Rows.WideTextSaid :=
  OpenClaim.holds_of_wide 8 Try.f8 rfl rfl rfl rfl rfl rfl rfl ⟨rfl, rfl, rfl, rfl, rfl⟩ rfl rfl rfl rfl rfl (by kernel_rfl) Try.func8 (by kernel_rfl)
    (of_decide_eq_true (by kernel_rfl)) (by unfold Func.isWrapper; first | (rw [if_pos (by decide +kernel)]; kernel_rfl) | (rw [if_neg (by decide +kernel)]; exact ⟨rfl, rfl⟩))
    (fun os started H enc _ => lifted os started H enc)
#print axioms proved
end Go.Proofs.Ytdddafhalcbhaaa.wideText
