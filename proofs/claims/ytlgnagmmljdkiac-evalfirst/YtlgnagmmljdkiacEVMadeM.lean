/-
  Expressions that are made come to something; a maker of bytes; what the walks of EvalMade, EvalFirst keep.
-/
import Derived.Test.YtlgnagmmljdkiacEVBegun
import Derived.Test.YtlgnagmmljdkiacMExpr
import Derived.Test.YtlgnagmmljdkiacLBytes
import Derived.Laws.AppendOwnNone

namespace Go.Proofs.Ytlgnagmmljdkiac.Lx
open Go.RowKit
open P (EX MX ev ev2 plI jn evA askD askDs)
set_option maxRecDepth 100000
set_option linter.unusedVariables false
set_option linter.unusedSimpArgs false

theorem plI_mem {s : List UInt8} : ∀ {rs : List (List UInt8)}, s ∈ rs → 0 ≤ plI s rs
  | r :: rs, h => by
    unfold P.plI
    by_cases e : r = s
    · rw [if_pos e]
      omega
    · rw [if_neg e]
      rcases List.mem_cons.1 h with h | h
      · exact absurd h.symm e
      · have := plI_mem h
        rw [if_neg (by omega)]
        omega
theorem sign_op {op : Int} {s : List UInt8} (h : P.Sign2 op s) : 3 ≤ op ∧ op ≤ 6 := by
  cases h <;> omega
/-- What is made comes to something. -/
theorem made_ev {v : Nat} {rs : List (List UInt8)} {vs : List Int} {n : Int} {d : Nat} {e : EX} (h : MX v rs d e) : ∀ m, d < m → ∃ x, ev rs vs n m e = some x := by
  induction h with
  | @num d k hk =>
    intro m hm
    obtain ⟨m, rfl⟩ : ∃ m', m = m' + 1 := ⟨m - 1, by omega⟩
    exact ⟨_, rfl⟩
  | @reg d s hs =>
    intro m hm
    obtain ⟨m, rfl⟩ : ∃ m', m = m' + 1 := ⟨m - 1, by omega⟩
    have h0 := plI_mem hs
    exact ⟨_, by rw [P.ev_reg, if_neg (by omega)]⟩
  | @bin d op s a b hs ha hb iha ihb =>
    intro m hm
    obtain ⟨m, rfl⟩ : ∃ m', m = m' + 1 := ⟨m - 1, by omega⟩
    obtain ⟨x, hx⟩ := iha m (by omega)
    obtain ⟨y, hy⟩ := ihb m (by omega)
    rw [P.ev_two (sign_op hs)]
    unfold P.ev2
    rw [hx, hy]
    exact ⟨_, rfl⟩
theorem made_wf {v : Nat} {rs : List (List UInt8)} {d : Nat} {e : EX} (hv : v ≤ 1000) (hr : ∀ s ∈ rs, s.length ≤ 1000) (h : MX v rs d e) : wfX e := by
  have hmx : (1000 : Nat) ≤ maxLen := by decide
  induction h with
  | @num d k hk => exact ⟨w64_small (by omega) (by omega), w64_small (by omega) (by omega), by simp, trivial⟩
  | @reg d s hs => exact ⟨w64_small (by omega) (by omega), w64_small (by omega) (by omega), Nat.le_trans (hr s hs) hmx, trivial⟩
  | @bin d op s a b hs ha hb iha ihb =>
    have := sign_op hs
    exact ⟨w64_small (by omega) (by omega), w64_small (by omega) (by omega), by simp, iha, ihb, trivial⟩
theorem made_pair {v : Nat} {rs : List (List UInt8)} {vs : List Int} {n : Int} {x y : EX} {p q op : Int} (ho : 3 ≤ op ∧ op ≤ 6) (h1 : 2 ≤ n ∧ n ≤ 4 ∧ vs.length = rs.length) (hx : MX v rs 3 x) (hy : MX v rs 3 y) (hp : evA rs vs n x = some p) (hq : evA rs vs n y = some q) : evA rs vs n (.mk op 0 [] [x, y]) = some (jn op p q n) := by
  rw [evA_yes _ h1] at hp hq ⊢
  have e : ∀ z, MX v rs 3 z → ev rs vs n 5 z = ev rs vs n 6 z := by
    intro z hz
    obtain ⟨u, hu⟩ := made_ev (vs := vs) (n := n) hz 4 (by omega)
    have hz4 : askD z ≤ 4 := by
      rcases Nat.lt_or_ge 4 (askD z) with h | h
      · rw [P.ev_deep 4 z h] at hu
        cases hu
      · exact h
    exact P.ev_more 5 6 z (by omega) (by omega)
  rw [P.ev_two ho]
  unfold P.ev2
  rw [e x hx, e y hy, hp, hq]
theorem made_some {v : Nat} {rs : List (List UInt8)} {vs : List Int} {n : Int} {x : EX} (h1 : 2 ≤ n ∧ n ≤ 4 ∧ vs.length = rs.length) (hx : MX v rs 3 x) : ∃ p, evA rs vs n x = some p ∧ 0 ≤ p ∧ p < n := by
  rw [evA_yes _ h1]
  obtain ⟨p, hp⟩ := made_ev (vs := vs) (n := n) hx 6 (by omega)
  exact ⟨p, hp, P.ev_bd ⟨h1.1, h1.2.1⟩ 6 x p hp⟩
theorem back_is {p q n : Int} (hn : 2 ≤ n ∧ n ≤ 4) (h0 : 0 ≤ p) (h1 : p < n) : V.addI (V.subI p q n) q n = p := by
  have e : V.subI p q n = V.inI (p - q) n := rfl
  rw [e, V.add_l]
  show V.inI (p - q + q) n = p
  rw [V.inI_ok (by omega), show p - q + q = p by omega]
  exact Int.emod_eq_of_lt h0 h1
/-- A maker is told. -/
def MkTo (w : World) (e : Ending) (w' : World) : Prop := ∃ M, e = .returned (.pointer (some ⟨M, 0, none⟩)) ∧ Mk w'.heap.size w' M ∧ w.heap.size ≤ M ∧ Below w.heap.size w w'
theorem mkr_any (a : Option Addr) (len cap : Nat) (xs : List Nat) (w : World) (h : IsBytes w a len xs) : Calls Try.prog 5 #[.slice a len cap] w (MkTo w) := by
  have hmk : Mk (w.alloc (.cells #[.slice a len cap, .int .i64 0] 39)).heap.size (w.alloc (.cells #[.slice a len cap, .int .i64 0] 39)) w.heap.size := by
    obtain ⟨hl, hm, hw, hc⟩ := h
    refine ⟨a, len, cap, 0, Blk.new w 39 #[.slice a len cap, .int .i64 0], by simp, Nat.le_refl _, Nat.zero_le _, hm, fun i hi => ?_⟩
    rcases hc with h0 | ⟨b, off, ha, hc⟩
    · omega
    · have h1 := hc i hi
      have hb := World.block_lt_of_cell? w _ h1
      have hb' : b < w.heap.size := hb
      have hO : Only (fun _ => False) w (w.alloc (.cells #[.slice a len cap, .int .i64 0] 39)) := (Only.refl _ w).alloc _
      exact ⟨b, off, xs.getD i 0, ha, by omega, by simp; omega, hw i, hO.cell h1 id⟩
  have HMK := Lib.hid hmk
  have hb : Below w.heap.size w (w.alloc (.cells #[.slice a len cap, .int .i64 0] 39)) := (Below.refl _ _).alloc (Nat.le_refl _) _
  have HB := Lib.hid hb
  clear hmk hb h
  go_enter Try.func5, Try.ntmps5
  go_wp2_with fail
  go_ret
  exact ⟨_, rfl, HMK.out, Nat.le_refl _, HB.out⟩
def ab : List (List UInt8) := [[97], [98]]
theorem nms_ab {w : World} {g : Nat} {t : TypeId} (h : Blk w g t #[.string ⟨#[97]⟩, .string ⟨#[98]⟩]) : Nms (· = g) w (.slice (some ⟨g, 0, none⟩) 2 2) ab := by
  refine ⟨_, 2, rfl, .inr ⟨g, 0, rfl, rfl, fun i hi => ?_⟩⟩
  have hi2 : i < 2 := hi
  obtain rfl | rfl : i = 0 ∨ i = 1 := by omega
  · exact h.cell 0
  · exact h.cell 1
theorem ivs_two {w : World} {g : Nat} {t : TypeId} {r s : Int} (h : Blk w g t #[.int .i64 r, .int .i64 s]) : Ivs (fun _ => True) w (.slice (some ⟨g, 0, none⟩) 2 2) [r, s] := by
  refine ⟨_, 2, rfl, .inr ⟨g, 0, rfl, trivial, fun i hi => ?_⟩⟩
  have hi2 : i < 2 := hi
  obtain rfl | rfl : i = 0 ∨ i = 1 := by omega
  · exact h.cell 0
  · exact h.cell 1
theorem rv_ab {w : World} {g g' : Nat} {t t' : TypeId} {r s : Nat} (h : Blk w g t #[.string ⟨#[97]⟩, .string ⟨#[98]⟩]) (h' : Blk w g' t' #[.int .i64 (r : Nat), .int .i64 (s : Nat)]) (hr : r < 256) (hs : s < 256) : RvIn w (some ⟨g, 0, none⟩) (some ⟨g', 0, none⟩) 2 2 ab [(r : Int), (s : Int)] := by
  refine ⟨(nms_ab h).mono (fun _ _ _ => trivial), ivs_two h', by decide, by simp, fun i => ?_⟩
  rcases i with _ | _ | i
  · exact w64_small (by simp) (by simp; omega)
  · exact w64_small (by simp) (by simp; omega)
  · exact w64_small (by simp) (by simp)
/-- An expression that is made, its number of values spelt as you like. -/
def MdTo (B M v : Nat) (w : World) (e : Ending) (w' : World) : Prop := ∃ (o m : Int) (s : ByteArray) (a : Option Addr) (n c : Nat) (x : EX), e = .returned (.agg #[.int .i64 o, .int .i64 m, .string s, .slice a n c]) ∧ LX (fun _ => True) w' (.agg #[.int .i64 o, .int .i64 m, .string s, .slice a n c]) x ∧ MX v ab 3 x ∧ Only (· = M) w w'
theorem mexpr_ab (B M v g : Nat) (z : Int) (w : World) (hv1 : 1 ≤ v) (hv : v ≤ 9) (hz : z = (v : Nat)) (h : Mk B w M) {t : TypeId} (hb : Blk w g t #[.string ⟨#[97]⟩, .string ⟨#[98]⟩]) (hg : g ≠ M) :
    Calls Try.prog 6 #[.pointer (some ⟨M, 0, none⟩), .slice (some ⟨g, 0, none⟩) 2 2, .int .i64 z, .int .i64 3] w (MdTo B M v w) := by
  subst hz
  refine (mexpr_at B M v hv1 hv 3 3 rfl ab (· = g) _ w (by omega) h (nms_ab hb) (fun g' e => by rw [e]; exact hg) (by decide)).mono fun e w' hh => ?_
  obtain ⟨o, m, s, a, n, c, x, rfl, hx, hmx, _, ho⟩ := hh
  exact ⟨o, m, s, a, n, c, x, rfl, LX.mono (fun _ _ _ => trivial) x hx, hmx, ho⟩
end Go.Proofs.Ytlgnagmmljdkiac.Lx
