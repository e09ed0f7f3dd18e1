/- horariumlaw04.FrameChunks answers true at every text, and leaves it as it was: chunks are the text again, each of 43 bytes but the last one, which has no more; each makes a cell. No condition. -/
import Derived.Test.YtdlfnmkdidiafaaFrG
import Derived.Deep.RegionHeld3
import Derived.Deep.DeepCutAuto
import Derived.BigQuiet
namespace Go.Proofs.Ytdlfnmkdidiafaa.frameChunks
open Go.ChangeShapes Go.WideShapes Go.ChangeAt Go.RowKit Go.Joins
set_option linter.unusedVariables false
set_option linter.unusedSimpArgs false

theorem chunks_spec (l : List UInt8) : (chunks l).flatten = l ∧ ∀ i (h : i < (chunks l).length), (i + 1 < (chunks l).length → (chunks l)[i].length = 43) ∧ (chunks l)[i].length ≤ 43 ∧ (0 < i ∨ l ≠ [] → (chunks l)[i] ≠ []) := by
  induction hn : l.length using Nat.strongRecOn generalizing l with
  | _ n ih =>
    by_cases c : 43 < l.length
    · obtain ⟨h1, h2⟩ := ih (l.drop 43).length (by simp; omega) (l.drop 43) rfl
      have hne : l.drop 43 ≠ [] := fun e => by have := congrArg List.length e; simp at this; omega
      have e := chunks_long c
      refine ⟨by rw [e, List.flatten_cons, h1, List.take_append_drop], fun i hi => ?_⟩
      have hi' := hi
      rw [e, List.length_cons] at hi'
      cases i with
      | zero =>
        have e0 : (chunks l)[0] = l.take 43 := by simp [e]
        rw [e0]
        have z : (l.take 43).length = 43 := by rw [List.length_take]; omega
        exact ⟨fun _ => z, by omega, fun _ h0 => by rw [h0] at z; simp at z⟩
      | succ i =>
        have hj : i < (chunks (l.drop 43)).length := by omega
        have e1 : (chunks l)[i + 1] = (chunks (l.drop 43))[i] := by simp [e]
        obtain ⟨a, b, d⟩ := h2 i hj
        rw [e1]
        exact ⟨fun h => a (by rw [e, List.length_cons] at h; omega), b, fun _ => d (Or.inr hne)⟩
    · have e := chunks_short (l := l) (by omega)
      refine ⟨by rw [e]; simp, fun i hi => ?_⟩
      have hi' := hi
      rw [e] at hi'
      obtain rfl : i = 0 := by simpa using hi'
      have e0 : (chunks l)[0] = l := by simp [e]
      rw [e0]
      exact ⟨fun h => by rw [e] at h; simp at h, by omega, fun h => h.resolve_left (by omega)⟩
def FcRel (w : World) (g : Nat) (ds : List (List UInt8)) (k : Nat) (s5 s6 : Value) (wx : World) : Prop :=
  ∃ i : Nat, i + k = ds.length ∧ s5 = .string (mkB (ds.take i).flatten) ∧ s6 = .int .i64 (i : Int) ∧ (∀ j (h : j < ds.length), wx.cell? ⟨g, j, none⟩ = some (.string (mkB ds[j]))) ∧ Below w.heap.size w wx
theorem flat_le (ds : List (List UInt8)) (i : Nat) : (ds.take i).flatten.length ≤ ds.flatten.length := by
  conv => rhs; rw [← List.take_append_drop i ds, List.flatten_append, List.length_append]
  omega
set_option maxRecDepth 100000 in
set_option maxHeartbeats 8000000 in
theorem walk (s : ByteArray) (w : World) :
    Calls Try.prog 7 #[.string s] w fun r w' => r = .returned (.bool true) ∧ Below w.heap.size w w' := by
  have S1 : Hid (∀ w : World, Calls Try.prog 9 #[.string s, .int .i64 400] w fun e w' => e = .returned (.string (cut s 400)) ∧ w' = w) := Lib.hid (fun w => short_any s 400 w (by omega))
  have z1 := cut_size s 400
  generalize cut s 400 = s1 at *
  have CA := Lib.hid (fun w => chunks_any s1 w (by omega))
  have ne := chunks_ne s1.data.toList
  have cl := chunks_len s1.data.toList
  have sp := chunks_spec s1.data.toList
  rw [← size_list] at cl
  have HS := Lib.hid (show s1 = mkB s1.data.toList from (mkB_of s1).symm)
  have hz := Lib.hid (size_list s1)
  generalize s1.data.toList = l at *
  generalize chunks l = ds at *
  obtain ⟨hfl, hsp⟩ := sp
  have HF := Lib.hid hfl
  have HP := Lib.hid hsp
  have pos : 0 < ds.length := by cases ds with | nil => exact absurd rfl ne | cons a b => simp
  have n0 : ((ds.length : Int) == 0) = false := by simp; omega
  have HN := Lib.hid ne
  clear hfl hsp ne
  go_enter Try.func7, Try.ntmps7
  go_wp2_with fail
  (with_reducible refine (awake_any _).mono ?_)
  rintro r w1 ⟨rfl, b1⟩
  go_wp2_with fail
  (with_reducible refine (S1.out _).mono ?_)
  rintro r w2 ⟨rfl, rfl⟩
  go_wp2_with fail
  (with_reducible refine (CA.out _).mono ?_)
  rintro r w3 ⟨⟨v, rfl, s3⟩, b3⟩
  obtain ⟨g, cap, rfl, -, -, hg⟩ := s3.cell HN.out
  have HG := Lib.hid hg
  have B3 := Lib.hid (b1.trans (b3.mono b1.size))
  clear hg s3 b1 b3 S1 CA HN
  go_wp2
  go_loopg [5, 6] (ds.length) (FcRel w g ds)
  case atStart => exact ⟨0, by omega, rfl, rfl, HG.out, B3.out⟩
  case round =>
    clear HG B3
    obtain ⟨i, hi, rfl, rfl, hc, bl⟩ := hrel
    rcases Nat.lt_or_ge i ds.length with hlt | hge
    · obtain ⟨q1, q2, q3⟩ := HP.out i hlt
      have c := hc i hlt
      have zx : ((mkB ds[i]).size : Int) = (ds[i].length : Int) := by rw [mkB_size]
      have MA := Lib.hid (fun w => make_yes (mkB ds[i]) 1 i w (by rw [mkB_size]; exact q2) (by omega) (by omega))
      have fl := flat_le ds (i + 1)
      rw [HF.out, flat_succ ds hlt, List.length_append] at fl
      have hzz := hz.out
      have ad := add_mk (ds.take i).flatten ds[i] (by omega)
      rw [← flat_succ ds hlt] at ad
      have il : (i : Int) < (ds.length : Int) := by omega
      have d2 : decide ((43 : Int) < (ds[i].length : Int)) = false := by simp; omega
      have em : 0 < i → ((mkB ds[i]).toList == (⟨#[]⟩ : ByteArray).toList) = false := fun h => by
        rw [toList_mkB, show (⟨#[]⟩ : ByteArray).toList = [] from toList_mkB []]
        have := q3 (Or.inl h)
        cases hd : ds[i] with | nil => exact absurd hd this | cons a b => rfl
      have N : ∀ wy, Below wr.heap.size wr wy → FcRel w g ds (gk - 1) (.string (mkB (ds.take (i + 1)).flatten)) (.int .i64 ((i : Int) + 1)) wy := fun wy hb => ⟨i + 1, by omega, rfl, rfl, fun j h => carry hb (hc j h), bl.trans (hb.mono bl.size)⟩
      have NX := Lib.hid N
      have CC := Lib.hid (hc i hlt)
      have hm : (i : Int) % 18446744073709551616 = (i : Int) := by omega
      have MB : Hid (∀ w : World, Calls Try.prog 10 #[.agg #[.string (mkB ds[i]), .int .u64 1, .int .u64 (i : Int)]] w fun r w' => r = .returned (.tuple #[.string (mkB (sec (mkB ds[i]).data.toList 1 i)), .int .i64 0]) ∧ Below w.heap.size w w') := MA
      clear MA hc bl N fl hzz HP HF q2 HS hz q3
      generalize mkB (sec (mkB ds[i]).data.toList 1 i) = Y at *
      generalize mkB ds[i] = X at *
      generalize ds[i].length = xl at *
      generalize mkB (ds.take i).flatten = U at *
      generalize mkB (ds.take (i + 1)).flatten = V at *
      by_cases hA : i + 1 < ds.length
      · have hxl := q1 hA
        have dA : decide ((i : Int) + 1 < (ds.length : Int)) = true := by simp; omega
        have n43 : ((xl : Int) != 43) = false := by simp; omega
        clear q1
        by_cases hB : 0 < i
        · have dB : decide ((0 : Int) < (i : Int)) = true := by simp; omega
          have e1 := em hB
          have e2 : (X.toList == []) = false := by rw [show (⟨#[]⟩ : ByteArray).toList = [] from toList_mkB []] at e1; exact e1
          have e3 : ¬ X.toList = [] := by simpa using e2
          clear em
          go_wp2_with fail
          (with_reducible refine (MB.out _).mono ?_)
          rintro r w4 ⟨rfl, b4⟩
          have c4 := carry b4 CC.out
          have NY := Lib.hid (NX.out _ b4)
          clear b4 NX MB c CC
          go_wp2
          go_roundg (gk - 1)
          case measure => omega
          case rel => exact NY.out
        · have dB : decide ((0 : Int) < (i : Int)) = false := by simp; omega
          clear em
          go_wp2_with fail
          (with_reducible refine (MB.out _).mono ?_)
          rintro r w4 ⟨rfl, b4⟩
          have c4 := carry b4 CC.out
          have NY := Lib.hid (NX.out _ b4)
          clear b4 NX MB c CC
          go_wp2
          go_roundg (gk - 1)
          case measure => omega
          case rel => exact NY.out
      · have dA : decide ((i : Int) + 1 < (ds.length : Int)) = false := by simp; omega
        clear q1
        by_cases hB : 0 < i
        · have dB : decide ((0 : Int) < (i : Int)) = true := by simp; omega
          have e1 := em hB
          have e2 : (X.toList == []) = false := by rw [show (⟨#[]⟩ : ByteArray).toList = [] from toList_mkB []] at e1; exact e1
          have e3 : ¬ X.toList = [] := by simpa using e2
          clear em
          go_wp2_with fail
          (with_reducible refine (MB.out _).mono ?_)
          rintro r w4 ⟨rfl, b4⟩
          have c4 := carry b4 CC.out
          have NY := Lib.hid (NX.out _ b4)
          clear b4 NX MB c CC
          go_wp2
          go_roundg (gk - 1)
          case measure => omega
          case rel => exact NY.out
        · have dB : decide ((0 : Int) < (i : Int)) = false := by simp; omega
          clear em
          go_wp2_with fail
          (with_reducible refine (MB.out _).mono ?_)
          rintro r w4 ⟨rfl, b4⟩
          have c4 := carry b4 CC.out
          have NY := Lib.hid (NX.out _ b4)
          clear b4 NX MB c CC
          go_wp2
          go_roundg (gk - 1)
          case measure => omega
          case rel => exact NY.out
    · obtain rfl : i = ds.length := by omega
      have e1 : (mkB (ds.take ds.length).flatten) = s1 := by rw [List.take_length, HF.out, HS.out]
      rw [e1]
      have t1 : (s1.toList == s1.toList) = true := by simp
      have B := Lib.hid bl
      clear bl hc e1 HP HF HS hz
      go_wp2
      go_ret
      exact ⟨rfl, B.out⟩

set_option maxRecDepth 100000 in
set_option maxHeartbeats 1600000 in
theorem lifted (os : Os) (started : os.Started) (H : Type) (enc : TypeId × Value → H) :
    ReturnsInHanded {} Try.checked os 7 .any (Rows.frameChunksSpec.pre6 enc Try.prog Try.f7 Rows.frameChunksRow.domain false) (Rows.frameChunksSpec.post enc Try.prog Try.f7 false true false false) := by
  refine returnsInHanded_of_change (C := Try.checked) own started (by kernel_rfl) Try.func7
    (ChangeSpec.witness6 (enc := enc) (C := Try.checked) false ⟨#[], #[.string ⟨#[]⟩], []⟩ 8 (by kernel_rfl) (by kernel_rfl) (by kernel_rfl) (by kernel_rfl)) ?_
  intro W base args ds gs before hval0 hW hcnd _
  have hval : ∀ (j : Nat) t v, Try.f7.params[j]? = some t → args[j]? = some v → Value.okWide Try.prog W .any base t v := hval0
  have hW' := hW
  obtain ⟨p, q, hA0, hV, rfl, hfz, hnd⟩ := hW
  have hA : DataW.TrodAll enc Try.prog W 0 (fun _ => true) true Try.f7.params.toList args.toList ds p := hA0
  rw [Try.params7] at hA hval
  obtain ⟨v0, vs0, d0, ds0, p0, q0, hargs, rfl, rfl, h0, r0⟩ := trodAll_cons hA
  obtain ⟨rfl, rfl, rfl⟩ := trodAll_nil r0
  obtain rfl : args = #[v0] := by cases args; simp_all
  obtain ⟨rfl, rfl⟩ := trodVars_none hV
  have lt0 : ∀ x ∈ p0, x.block < W.heap.size := by obtain ⟨m, hm⟩ := h0; exact DataW.trod_lt m _ _ _ hm
  obtain ⟨s, e0, -, -, szs⟩ := Go.ChangeMaps.open_string Try.underlying9 (hval 0 9 v0 rfl rfl) h0
  subst e0
  clear hA0 hval0
  refine (walk s W).mono fun e W' ⟨he, bel⟩ => ?_
  subst he
  exact ⟨_, rfl, _, _, _, [], _, [], hW', trodAll_mk1 (shut_bool Try.underlying4 _), (trodAll_cons_mk (Below.trod laidOut (by kernel_rfl) (of_decide_eq_true (by kernel_rfl)) h0 bel lt0) trodAll_mk0), rfl, bel.frame _, fun h => by cases h⟩

theorem proved : Rows.FrameChunksSaid :=
  OpenClaim.holds_of_wide 7 Try.f7 rfl rfl rfl rfl rfl rfl rfl ⟨rfl, rfl, rfl, rfl, rfl⟩ rfl rfl rfl rfl rfl (by kernel_rfl) Try.func7 (by kernel_rfl)
    (of_decide_eq_true (by kernel_rfl)) (by unfold Func.isWrapper; first | (rw [if_pos (by decide +kernel)]; kernel_rfl) | (rw [if_neg (by decide +kernel)]; exact ⟨rfl, rfl⟩))
    (fun os started H enc _ => lifted os started H enc)
#print axioms proved
end Go.Proofs.Ytdlfnmkdidiafaa.frameChunks
