/-
  What Line of post tells, as a contract.
-/
import Derived.Test.YtchokfgffnomoaaDoorPTReg
import Derived.Test.YtchokfgffnomoaaDoorPTShelf
namespace Go.Proofs.YtchokfgffnomoaaDoor.Lx
open Go.RowKit
open P (xN pcs blk)
set_option maxRecDepth 100000
set_option linter.unusedVariables false
set_option linter.unusedSimpArgs false
theorem getD_all {α : Type} {l : List α} {d : α} {Q : α → Prop} (h : ∀ i, Q (l.getD i d)) : ∀ x ∈ l, Q x := by
  intro x hx
  obtain ⟨i, hi⟩ := List.getElem?_of_mem hx
  have := h i
  rw [List.getD_eq_getElem?_getD, hi] at this
  exact this
theorem pcs_short {F : List UInt8} {ns : List (List UInt8)} {vs : List Int} (hF : F.length ≤ 100) (hs : ∀ i, (ns.getD i []).length ≤ 100) (h64 : ∀ k, W64 (vs.getD k 0)) : ∀ p ∈ pcs F ns vs, p.length ≤ 300 := by
  intro p hp
  unfold P.pcs at hp
  obtain ⟨⟨a, v⟩, hq, rfl⟩ := List.mem_map.1 hp
  have h1 := getD_all (Q := fun x : List UInt8 => x.length ≤ 100) hs a (List.of_mem_zip hq).1
  have h2 := xNum_len v (getD_all (Q := W64) h64 v (List.of_mem_zip hq).2)
  simp only [List.length_append, List.length_singleton]
  omega
theorem rgp_short {regs : List (List (List UInt8))} {rv : List (List Int)} (hss : ∀ i k, ((regs.getD i []).getD k []).length ≤ 100) (h64 : ∀ i k, W64 ((rv.getD i []).getD k 0)) : ∀ t, t ≤ 1000 → ∀ p ∈ rgp regs rv t, p.length ≤ 300
  | 0, _, p, hp => by cases hp
  | t + 1, ht, p, hp => by
    unfold rgp at hp
    rcases List.mem_append.1 hp with hp | hp
    · exact rgp_short hss h64 t (by omega) p hp
    · refine pcs_short ?_ (hss t) (h64 t) p hp
      rw [List.length_append]
      have := xNum_len (t : Nat) ⟨by omega, by omega⟩
      simp
      omega
theorem blk_len {l : List (List UInt8)} (h : ∀ p ∈ l, p.length ≤ 300) : (blk l).length ≤ l.length * 301 := by
  induction l with
  | nil => exact Nat.zero_le _
  | cons p ps ih =>
    have h1 := h p (.head _)
    have h2 := ih (fun q hq => h q (.tail _ hq))
    unfold P.blk
    rw [List.length_cons, List.length_append, List.length_cons]
    simp
    omega
theorem join_len {l : List (List UInt8)} (h : ∀ p ∈ l, p.length ≤ 300) : (Lib.join l [32]).length ≤ l.length * 301 := by
  rw [← P.blk_join, List.length_drop]
  have := blk_len h
  omega
theorem tcs_at {l : List (List UInt8)} {j : Nat} {x : List UInt8} (h : l[j]? = some x) : (tcs l)[j]? = some (.string (bs x)) := by
  unfold tcs
  rw [List.getElem?_map, h]
  rfl
/-- Texts joined. -/
theorem joinP_any {B : Nat} {w : World} {v : Value} {l : List (List UInt8)} (h : RowT B w v l) (hl : l.length ≤ 10000000) (hs : ∀ p ∈ l, p.length ≤ 300) : Calls Tryd.prog 46 #[v, .string ⟨#[32]⟩] w (TextTo (bs (Lib.join l [32])) w) := by
  rcases h.2 with ⟨hv, h0⟩ | ⟨g, cap, cur, hv, hg, hh, hcap, hcm, hsz, hx⟩
  · subst hv
    rw [List.length_eq_zero_iff.1 h0]
    exact (Tryd.strings_Join_none none 0 _ w).mono fun e w' ⟨he, hw⟩ => by
      subst hw
      exact ⟨he, Below.refl _ _⟩
  · have hb := join_len hs
    have hml : (l.map bs).map (·.data.toList) = l := by
      rw [List.map_map]
      conv => rhs; rw [← List.map_id l]
      exact List.map_congr_left fun x _ => by show (bs x).data.toList = x; rfl
    have hc := h.cells (g := g) (by rw [hv]; rfl)
    subst hv
    have hj := Tryd.strings_Join g 0 cap (l.map bs) ⟨#[32]⟩ w (fun j x hx => by
      rw [List.getElem?_map] at hx
      obtain ⟨y, hy, rfl⟩ := Option.map_eq_some_iff.1 hx
      have := hc j _ (tcs_at hy)
      rw [add_off] at this
      exact this) (lt_of_block hh) (by rw [List.length_map]; omega) (by rw [List.length_map]; exact hcap) (by rw [hml]; show (Lib.join l [32]).length ≤ _; omega)
    rw [hml, List.length_map] at hj
    exact hj
/-- The pieces of a line. -/
def lnp (locs : List (List UInt8)) (regs : List (List (List UInt8))) (rv : List (List Int)) (mv : List Int) : List (List UInt8) := rgp regs rv (min regs.length rv.length) ++ pcs [] locs mv
/-- Names are short. -/
structure ShN (locs : List (List UInt8)) (regs : List (List (List UInt8))) : Prop where
  l : ∀ i, (locs.getD i []).length ≤ 100
  g : ∀ i k, ((regs.getD i []).getD k []).length ≤ 100
set_option maxHeartbeats 12800000 in
theorem postLine_any {B : Nat} {w : World} {la ga ra ma : Option Addr} {lc gc rc mc : Nat} {locs : List (List UInt8)} {regs : List (List (List UInt8))} {rv : List (List Int)} {mv : List Int} (h : AkIn w la ga ra ma lc mc locs regs rv mv) (hn : ShN locs regs) (hB : B ≤ w.heap.size) (ht : Tp B w) :
    Calls Tryd.prog 27 #[.slice la locs.length lc, .slice ga regs.length gc, .agg #[.slice ra rv.length rc, .slice ma mv.length mc]] w (TextTo (bs (Lib.join (lnp locs regs rv mv) [32])) w) := by
  obtain ⟨i0, hi, hz0, hz1, hz2⟩ := info_parts Tryd.infoStr
  have HI := Lib.hid hi
  have HZ0 := Lib.hid hz0
  have HZ1 := Lib.hid hz1
  have HZ2 := Lib.hid hz2
  have HQ := Lib.hid (Blk.new w 46 #[.slice ra rv.length rc, .slice ma mv.length mc])
  have hb1 := one_belowC w (.cells #[.slice ra rv.length rc, .slice ma mv.length mc] 46)
  have HB := Lib.hid hb1
  have hsz := hb1.size
  have hgl := h.sml.g
  have hrl := h.sml.r
  have hml := h.sml.m
  have hll := h.sml.l
  have H := Lib.hid h
  have HRG := Lib.hid (fun w' (hb : Below w.heap.size w w') => regPieces_any (B := B) regs rv ga ra gc rc w' (h.low hb).nam.nregs (h.low hb).out.regs hgl hrl h.sml.gs h.sml.rs hn.g (fun i k => (h.out.rok.2 i).2 k) (by have := hb.size; omega) (ht.low hB hb))
  have HPC := Lib.hid (fun w' (hb : Below w.heap.size w w') => pieces_any (B := B) [] locs mv la ma lc mc w' (h.low hb).nam.nlocs (h.low hb).out.mem hll hml (by decide) hn.l h.out.mok.2 (by have := hb.size; omega) (ht.low hB hb))
  have hr1 := rgp_len (rv := rv) h.sml.gs (min regs.length rv.length)
  have hr2 := pcs_len [] locs mv
  have HSH := Lib.hid (show ∀ p ∈ rgp regs rv (min regs.length rv.length) ++ pcs [] locs mv, p.length ≤ 300 from fun p hp => by
    rcases List.mem_append.1 hp with hp | hp
    · exact rgp_short hn.g (fun i k => (h.out.rok.2 i).2 k) _ (by omega) p hp
    · exact pcs_short (by decide) hn.l h.out.mok.2 p hp)
  have hr3 : (rgp regs rv (min regs.length rv.length)).length ≤ 1000000 := by
    have : min regs.length rv.length ≤ 1000 := by omega
    have := Nat.mul_le_mul_right 1000 this
    omega
  have hr4 : (pcs [] locs mv).length ≤ 1000 := by omega
  rw [show lnp locs regs rv mv = rgp regs rv (min regs.length rv.length) ++ pcs [] locs mv from rfl]
  generalize rgp regs rv (min regs.length rv.length) = RG at *
  generalize pcs [] locs mv = PP at *
  rw [show bs [] = ⟨#[]⟩ from rfl] at HPC
  clear h hn hi hz0 hz1 hz2 ht hr1 hr2 hb1
  go_enter Tryd.func27, Tryd.ntmps27
  go_wp2_with fail
  generalize hW : w.alloc (.cells #[.slice ra rv.length rc, .slice ma mv.length mc] 46) = W at *
  clear hW
  have hbD : Below W.heap.size W W.drew := (Below.refl _ _).drew
  have hb0 : Below W.heap.size W W := Below.refl _ _
  have hKS := Lib.hid (show ∀ w', Below W.heap.size W w' → w'.cell? ⟨w.heap.size, 0, none⟩ = some (.slice ra rv.length rc) ∧ w'.cell? ⟨w.heap.size, 1, none⟩ = some (.slice ma mv.length mc) from fun w' hb => ⟨(HQ.out.live' hb).cell 0, (HQ.out.live' hb).cell 1⟩)
  have HK0 := Lib.hid (hKS.out W hb0)
  have HKD := Lib.hid (hKS.out W.drew hbD)
  have HR1 := Lib.hid (fun w' (hb : Below W.heap.size W w') => (HRG.out w' (HB.out.trans (hb.mono hsz))).mono fun e w'' (hh : RowTo RG w' e w'') => (show ∃ u, e = .returned u ∧ RowT W.heap.size w'' u RG ∧ Below W.heap.size W w'' from by
    obtain ⟨u, he, hr, hb2⟩ := hh
    exact ⟨u, he, own_mono hr hb.size, hb.trans (hb2.mono hb.size)⟩))
  have HP1 := Lib.hid (fun w' (hb : Below W.heap.size W w') => (HPC.out w' (HB.out.trans (hb.mono hsz))).mono fun e w'' (hh : RowTo PP w' e w'') => (show ∃ u, e = .returned u ∧ RowT W.heap.size w'' u PP ∧ Below w'.heap.size w' w'' ∧ Below W.heap.size W w'' from by
    obtain ⟨u, he, hr, hb2⟩ := hh
    exact ⟨u, he, own_mono hr hb.size, hb2, hb.trans (hb2.mono hb.size)⟩))
  clear HRG HPC
  go_region_held3 (fun w' => w'.cell? ⟨w.heap.size, 0, none⟩ = some (.slice ra rv.length rc) ∧ w'.cell? ⟨w.heap.size, 1, none⟩ = some (.slice ma mv.length mc))
    (first
      | with_reducible exact HK0.out
      | with_reducible exact HKD.out
      | with_reducible assumption
      | go_keep)
    (first
      | (go_at_call 47; (with_reducible refine (HR1.out _ (by assumption)).mono ?_); rintro e w7 ⟨u7, rfl, hr7, hb7⟩; have hS7 := hKS.out w7 hb7; have HR7 := Lib.hid hr7; clear hr7)
      | (go_at_call 48; (with_reducible refine (HP1.out _ (by assumption)).mono ?_); rintro e w9 ⟨u9, rfl, hr9, hb79, hb9⟩; have hS9 := hKS.out w9 hb9; have hs9 := hb9.size; have HR9 := Lib.hid hr9; have HL9 := Lib.hid (own_below HR7.out hb79); clear hr9 hb79)
      | (refine step_append_rows _ (by rfl) _ _ _ (by rfl) W.heap.size 9 i0 _ 1 16 Tryd.underlying41 HI.out HZ0.out HZ1.out HZ2.out rfl (by decide) u7 RG.length (tcs RG) (by rfl) HL9.out u9 W.heap.size PP.length (tcs PP) (by rfl) HR9.out (tcs_one _) (by unfold maxLen; omega) (by omega) (by omega) ?_; intro v8 w8 hown8 hgrow8; have hb8 := hb9.grown hgrow8 (by omega) (row_base HR7.out); have hS8 := hKS.out w8 hb8; have HJ := Lib.hid (joinP_any (B := W.heap.size) (w := w8) (v := v8) (l := RG ++ PP) (by unfold RowT; rw [tcs_app, List.length_append]; exact hown8) (by rw [List.length_append]; omega) HSH.out))
      | (go_at_call 46; (with_reducible refine HJ.out.mono ?_); rintro e w10 ⟨rfl, hb10⟩; have hb11 := hb8.trans (hb10.mono hb8.size); have hS10 := hKS.out w10 hb11))
  all_goals
    go_wp2_with fail
    go_ret
    exact ⟨rfl, HB.out.trans (hb11.mono hsz)⟩
end Go.Proofs.YtchokfgffnomoaaDoor.Lx
