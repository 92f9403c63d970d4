/-
  What Digits of the document's answer tells of numbers from 0 on, as a contract.
-/
import Derived.Test.YtchokfgffnomoaaDoorPA
import Derived.Laws.BytesString
namespace Go.Proofs.YtchokfgffnomoaaDoor.Lx
open Go.RowKit
set_option maxRecDepth 100000
set_option linter.unusedVariables false
set_option linter.unusedSimpArgs false
/-- A text is told, and nothing old turns. -/
def TextTo (s : ByteArray) (w : World) (e : Ending) (w' : World) : Prop := e = .returned (.string s) ∧ Below w.heap.size w w'
/-- A text of one byte. -/
theorem conv_one (w : World) (x : Int) (b : UInt8) (hx : x = (b.toNat : Int)) : (convert 54 9 (.slice (some ⟨w.heap.size, 0, none⟩) 1 1)).run Tryd.prog (w.alloc (.cells #[.int .u8 x] 5)) = .ok (.string (bs [b])) (w.alloc (.cells #[.int .u8 x] 5)) := by
  rw [run_convert_bytes_string _ _ _ 5 _ _ _ Tryd.underlying54 Tryd.underlying5 Tryd.underlying9]
  rw [run_bytesToString _ ⟨w.heap.size, 0, none⟩ 1 1 [x] (by
    have hc : (w.alloc (.cells #[.int .u8 x] 5)).cell? ⟨w.heap.size, 0, none⟩ = some (.int .u8 x) := (Blk.new w 5 #[.int .u8 x]).cell 0
    simp [loadCells, hc, go_sem])]
  subst hx
  have : UInt8.ofNat ((b.toNat : Int)).toNat = b := by simp
  rw [List.foldl_cons, List.foldl_nil, this]
  rfl
set_option maxHeartbeats 800000 in
theorem digits_small (n : Nat) (b : UInt8) (w : World) (hn : n < 10) (hb : b.toNat = 48 + n) : Calls Tryd.prog 35 #[.int .i64 (n : Nat)] w (TextTo (bs [b]) w) := by
  have h1 : (n : Int) < 10 := by omega
  have d0 : decide ((0 : Int) ≤ (n : Int)) = true := by simp
  have d1 : decide ((n : Int) < 10) = true := by simpa using h1
  have hcv := conv_one w (48 + (n : Int)) b (by omega)
  clear hb
  generalize bs [b] = T at *
  go_enter Tryd.func35, Tryd.ntmps35
  go_wp2_with fail
  go_ret
  exact ⟨rfl, (Below.refl _ _).alloc (Nat.le_refl _) _⟩
theorem bs_app (a b : List UInt8) : bs a ++ bs b = bs (a ++ b) := ByteArray.mk_append_mk a b
theorem bs_size (a : List UInt8) : (bs a).size = a.length := by rw [← by_len, by_bs]
theorem dec_max (n : Nat) (h : (n : Int) ≤ 9223372036854775807) : (L.decL n).length ≤ 19 := L.dec_len n 18 (by
  have h10 : (10 : Nat) ^ (18 + 1) = 10000000000000000000 := by decide
  omega)
set_option maxHeartbeats 800000 in
theorem digits_any (n : Nat) : ∀ (w : World), (n : Int) ≤ 9223372036854775807 → Calls Tryd.prog 35 #[.int .i64 (n : Nat)] w (TextTo (bs (L.decL n)) w) := by
  induction n using Nat.strongRecOn with
  | ind n ih =>
    intro w hn
    by_cases h : n < 10
    · rw [L.dec_small h]
      exact digits_small n _ w h (L.digit_nat h)
    · have h10 : n / 10 < n := by omega
      have IH := Lib.hid (show ∀ w, Calls Tryd.prog 35 #[.int .i64 ((n : Int) / 10)] w (TextTo (bs (L.decL (n / 10))) w) from fun w => ih (n / 10) h10 w (by omega))
      have hr : n % 10 < 10 := by omega
      have IR := Lib.hid (show ∀ w, Calls Tryd.prog 35 #[.int .i64 ((n : Int) % 10)] w (TextTo (bs [UInt8.ofNat (48 + n % 10)]) w) from fun w => digits_small (n % 10) (UInt8.ofNat (48 + n % 10)) w hr (L.digit_nat hr))
      have HD := Lib.hid (show bs (L.decL (n / 10)) ++ bs [UInt8.ofNat (48 + n % 10)] = bs (L.decL n) by rw [bs_app, ← L.dec_great h])
      have hl1 : (bs (L.decL (n / 10))).size ≤ 19 := by rw [bs_size]; exact dec_max _ (by omega)
      have hl2 : (bs [UInt8.ofNat (48 + n % 10)]).size ≤ 1 := by rw [bs_size]; simp
      generalize bs (L.decL (n / 10)) = A at *
      generalize bs [UInt8.ofNat (48 + n % 10)] = B at *
      generalize bs (L.decL n) = C at *
      have d0 : decide ((0 : Int) ≤ (n : Int)) = true := by simp
      have d1 : decide ((n : Int) < 10) = false := by simp; omega
      clear ih
      go_enter Tryd.func35, Tryd.ntmps35
      go_wp2_with fail
      with_reducible refine (IH.out _).mono ?_
      rintro e w1 ⟨rfl, hb1⟩
      go_wp2_with fail
      with_reducible refine (IR.out _).mono ?_
      rintro e w2 ⟨rfl, hb2⟩
      have hsz1 := hb1.size
      have hsum : ¬ A.size + B.size > 9223372036854775807 := by omega
      go_wp2_with fail
      go_ret
      exact ⟨by rw [← HD.out]; rfl, hb1.trans (hb2.mono hsz1)⟩
end Go.Proofs.YtchokfgffnomoaaDoor.Lx
