/-
  many of cells, of threads: contracts.
-/
import Derived.Test.YtgobcflfhabdhaaGreatDoorDSt
namespace Go.Proofs.YtgobcflfhabdhaaGreatDoor.Lx
open Go.RowKit
open L (Tok)
open P (EX CO ST Gl nextR)
set_option maxRecDepth 100000
set_option linter.unusedVariables false
set_option linter.unusedSimpArgs false
/-- A cell: a location and a number. -/
abbrev CE := List UInt8 × Int
/-- A cell as a value. -/
def LE (Q : Nat → Prop) (w : World) (v : Value) (c : CE) : Prop := v = .agg #[.string (bs c.1), .int .i64 c.2]
def AnyE (w : World) (v : Value) : Prop := ∃ (s : ByteArray) (n : Int), v = .agg #[.string s, .int .i64 n]
/-- Cells side by side. -/
def LEs (w : World) (g off : Nat) : List CE → Prop
  | [] => True
  | e :: es => (w.cell? ⟨g, off, none⟩ = some (.string (bs e.1)) ∧ w.cell? ⟨g, off + 1, none⟩ = some (.int .i64 e.2)) ∧ LEs w g (off + 2) es
/-- A slice of cells. -/
def IsEs (Q : Nat → Prop) (w : World) (v : Value) (es : List CE) : Prop := ∃ a c, v = .slice a es.length c ∧ es.length ≤ maxLen ∧ (es = [] ∨ ∃ g off, a = some ⟨g, off, none⟩ ∧ Q g ∧ LEs w g off es)
theorem LEs.same {w w' : World} {g : Nat} (h : w'.heap[g]? = w.heap[g]?) : ∀ (es : List CE) {off : Nat}, LEs w g off es → LEs w' g off es
  | [], off, hv => trivial
  | e :: es, off, hv => by
    have hc : ∀ o, w'.cell? ⟨g, o, none⟩ = w.cell? ⟨g, o, none⟩ := fun o => by simp only [World.cell?, h]
    unfold LEs at hv ⊢
    exact ⟨⟨(hc _).trans hv.1.1, (hc _).trans hv.1.2⟩, LEs.same h es hv.2⟩
theorem LEs.lt {w : World} {g off : Nat} {e : CE} {es : List CE} (h : LEs w g off (e :: es)) : g < w.heap.size := World.block_lt_of_cell? w ⟨g, off, none⟩ h.1.1
theorem IsEs.step {Q Q' : Nat → Prop} {w w' : World} (h : Same Q Q' w w') {v : Value} {es : List CE} (hv : IsEs Q w v es) : IsEs Q' w' v es := by
  obtain ⟨a, c, rfl, hm, hr⟩ := hv
  refine ⟨a, c, rfl, hm, ?_⟩
  cases es with
  | nil => exact .inl rfl
  | cons e es =>
    rcases hr with h1 | ⟨g, off, rfl, hg, hs⟩
    · cases h1
    · obtain ⟨h1, h2⟩ := h g hg hs.lt
      exact .inr ⟨g, off, rfl, h1, LEs.same h2 _ hs⟩
/-- Threads side by side: a slice of statements each. -/
def LTs (Q : Nat → Prop) (w : World) (g off : Nat) : List (List ST) → Prop
  | [] => True
  | e :: es => (∃ v, w.cell? ⟨g, off, none⟩ = some v ∧ IsSs Q w v e) ∧ LTs Q w g (off + 1) es
def IsTs (Q : Nat → Prop) (w : World) (v : Value) (es : List (List ST)) : Prop := ∃ a c, v = .slice a es.length c ∧ es.length ≤ maxLen ∧ (es = [] ∨ ∃ g off, a = some ⟨g, off, none⟩ ∧ Q g ∧ LTs Q w g off es)
theorem LTs.lt {Q : Nat → Prop} {w : World} {g off : Nat} {e : List ST} {es : List (List ST)} (h : LTs Q w g off (e :: es)) : g < w.heap.size := by
  obtain ⟨⟨v, hc, _⟩, _⟩ := h
  exact World.block_lt_of_cell? w ⟨g, off, none⟩ hc
theorem LTs.step {Q Q' : Nat → Prop} {w w' : World} (h : Same Q Q' w w') {g : Nat} (hg : w'.heap[g]? = w.heap[g]?) : ∀ (es : List (List ST)) {off : Nat}, LTs Q w g off es → LTs Q' w' g off es
  | [], off, hv => trivial
  | e :: es, off, hv => by
    have hc : ∀ o, w'.cell? ⟨g, o, none⟩ = w.cell? ⟨g, o, none⟩ := fun o => by simp only [World.cell?, hg]
    unfold LTs at hv ⊢
    obtain ⟨⟨v, h1, h2⟩, h3⟩ := hv
    exact ⟨⟨v, (hc _).trans h1, IsSs.step h h2⟩, LTs.step h hg es h3⟩
theorem IsTs.step {Q Q' : Nat → Prop} {w w' : World} (h : Same Q Q' w w') {v : Value} {es : List (List ST)} (hv : IsTs Q w v es) : IsTs Q' w' v es := by
  obtain ⟨a, c, rfl, hm, hr⟩ := hv
  refine ⟨a, c, rfl, hm, ?_⟩
  cases es with
  | nil => exact .inl rfl
  | cons e es =>
    rcases hr with h1 | ⟨g, off, rfl, hg, hs⟩
    · cases h1
    · obtain ⟨h1, h2⟩ := h g hg hs.lt
      exact .inr ⟨g, off, rfl, h1, LTs.step h h2 _ hs⟩
theorem Tryz.infoCe : (Tryz.prog.info? 55).map (fun i => (i.zero, i.size, i.bytes)) = some (some (.agg #[.string ⟨#[]⟩, .int .i64 0]), 2, 24) := by kernel_rfl
theorem Tryz.infoSl : (Tryz.prog.info? 50).map (fun i => (i.zero, i.size, i.bytes)) = some (some (.slice none 0 0), 1, 24) := by kernel_rfl
theorem cells_new (w : World) (cs : Array Value) (t : TypeId) : ∀ j u, cs.toList[j]? = some u → (w.alloc (.cells cs t)).cell? ((⟨w.heap.size, 0, none⟩ : Addr).add j) = some u := by
  intro j u hu
  have hB := Blk.new w t cs
  have h := hB.cell j
  have e : ((⟨w.heap.size, 0, none⟩ : Addr).add j) = ⟨w.heap.size, j, none⟩ := by simp [Addr.add]; intro h; exact h.symm
  rw [e, h]
  simpa using hu
theorem two_one (s : ByteArray) (n : Int) : ∀ u ∈ [Value.string s, .int .i64 n], u.oneCell' = true := by
  intro u hu
  simp only [List.mem_cons, List.not_mem_nil, or_false] at hu
  rcases hu with rfl | rfl <;> rfl
theorem sl_one (a : Option Addr) (n c : Nat) : ∀ u ∈ [Value.slice a n c], u.oneCell' = true := by
  intro u hu
  simp only [List.mem_cons, List.not_mem_nil, or_false] at hu
  subst hu
  rfl
def hd1 : List Value → Value
  | [v] => v
  | _ => .tuple #[]
theorem leStep : StepV LE := by
  intro Q Q' w w' h v a hv
  exact hv
theorem issStep : StepV IsSs := by
  intro Q Q' w w' h v a hv
  exact IsSs.step h hv
theorem rowsE {Q : Nat → Prop} {w : World} {g : Nat} : ∀ (es : List CE) (vals : List Value) (off : Nat), RowsV 2 agg LE Q w vals es → (∀ i u, vals[i]? = some u → w.cell? ⟨g, off + i, none⟩ = some u) → LEs w g off es
  | [], vals, off, h, hc => trivial
  | e :: es, vals, off, h, hc => by
    obtain ⟨cs, rest, rfl, hl, hv, hr⟩ := h
    match cs, hl with
    | [c0, c1], _ =>
      have hv' : Value.agg #[c0, c1] = .agg #[.string (bs e.1), .int .i64 e.2] := hv
      injection hv' with hv'
      obtain ⟨rfl, rfl⟩ : c0 = _ ∧ c1 = _ := by simpa using hv'
      unfold LEs
      refine ⟨⟨hc 0 _ rfl, hc 1 _ rfl⟩, ?_⟩
      refine rowsE es rest (off + 2) hr (fun i u hu => ?_)
      have := hc (i + 2) u (by simpa using hu)
      rw [show off + (i + 2) = off + 2 + i by omega] at this
      exact this
theorem rowsT {Q : Nat → Prop} {w : World} {g : Nat} : ∀ (es : List (List ST)) (vals : List Value) (off : Nat), RowsV 1 hd1 IsSs Q w vals es → (∀ i u, vals[i]? = some u → w.cell? ⟨g, off + i, none⟩ = some u) → LTs Q w g off es
  | [], vals, off, h, hc => trivial
  | e :: es, vals, off, h, hc => by
    obtain ⟨cs, rest, rfl, hl, hv, hr⟩ := h
    match cs, hl with
    | [c0], _ =>
      unfold LTs
      refine ⟨⟨c0, hc 0 _ rfl, hv⟩, ?_⟩
      refine rowsT es rest (off + 1) hr (fun i u hu => ?_)
      have := hc (i + 1) u (by simpa using hu)
      rw [show off + (i + 1) = off + 1 + i by omega] at this
      exact this
theorem LTs.mono {Q Q' : Nat → Prop} {w : World} (h : ∀ b, Q b → b < w.heap.size → Q' b) {g off : Nat} {es : List (List ST)} (hv : LTs Q w g off es) : LTs Q' w g off es := LTs.step (fun b hb hl => ⟨h b hb hl, rfl⟩) rfl es hv
theorem Mn.isEs {tot : List Tok → P.Res (List CE × List Nat)} {C g base : Nat} {TS : List Tok} {pv : Value} {ps : List Nat} {st : Sta} {w : World} {l : Value} {wr : World} {pvj : Value} {psj : List Nat} {m : Nat} {vals : List Value} {es : List CE} {qs : List Nat} {ts : List Tok}
    (h : Mn 2 agg LE 55 tot C g base TS pv ps st w l wr pvj psj m vals (.ok ((es, qs), ts))) : IsEs (Nw w.heap.size pvj) wr l es := by
  obtain ⟨h1, rfl, h3⟩ := h.live es qs ts rfl
  have hm := own_max h.own
  by_cases h0 : es = []
  · obtain ⟨a, c, rfl⟩ := slice_of_own h.own
    exact ⟨a, c, rfl, hm, .inl h0⟩
  · obtain ⟨gl, cap, rfl, hgb, hgl⟩ := h.own.form (by cases es with
      | nil => exact absurd rfl h0
      | cons x xs => simp)
    refine ⟨_, cap, rfl, hm, .inr ⟨gl, 0, rfl, ⟨hgb, own_types h.own h.pl (by decide) gl rfl⟩, ?_⟩⟩
    exact rowsE es vals 0 h3 (own_cells h.own)
theorem Mn.isTs {tot : List Tok → P.Res (List (List ST) × List Nat)} {C g base : Nat} {TS : List Tok} {pv : Value} {ps : List Nat} {st : Sta} {w : World} {l : Value} {wr : World} {pvj : Value} {psj : List Nat} {m : Nat} {vals : List Value} {es : List (List ST)} {qs : List Nat} {ts : List Tok}
    (h : Mn 1 hd1 IsSs 50 tot C g base TS pv ps st w l wr pvj psj m vals (.ok ((es, qs), ts))) : IsTs (Nw w.heap.size pvj) wr l es := by
  obtain ⟨h1, rfl, h3⟩ := h.live es qs ts rfl
  have hm := own_max h.own
  by_cases h0 : es = []
  · obtain ⟨a, c, rfl⟩ := slice_of_own h.own
    exact ⟨a, c, rfl, hm, .inl h0⟩
  · obtain ⟨gl, cap, rfl, hgb, hgl⟩ := h.own.form (by cases es with
      | nil => exact absurd rfl h0
      | cons x xs => simp)
    refine ⟨_, cap, rfl, hm, .inr ⟨gl, 0, rfl, ⟨hgb, own_types h.own h.pl (by decide) gl rfl⟩, ?_⟩⟩
    exact LTs.mono (fun b hb _ => ⟨hb.1, hb.2.1⟩) (rowsT es vals 0 h3 (own_cells h.own))
set_option maxHeartbeats 3200000 in
theorem manyE_d (C g base : Nat) (TS : List Tok) (pv : Value) (ps : List Nat) (st : Sta) (w : World) (tot : List Tok → P.Res (List CE × List Nat)) (one : List Tok → P.Res (CE × List Nat)) (h : Dc w C g TS pv st) (hp : OwnP w base pv ps) (hg : g < base) (hbase : base ≤ w.heap.size) (hn : ps.length + slen st ≤ 50000)
    (hMay : ∀ st pv w, Dc w C g TS pv st → Calls Tryz.prog 52 #[.pointer (some ⟨C, 0, none⟩)] w (fun e w' => e = .returned (.bool ((onIs [105, 110, 105, 116]) st)) ∧ Below w.heap.size w w'))
    (hOne : ∀ ts pv ps w, Dc w C g TS pv (.ok ts) → P.isS [105, 110, 105, 116] ts = true → OwnP w base pv ps → base ≤ w.heap.size → ps.length + ts.length ≤ 50000 → ts.length ≤ slen st → Calls Tryz.prog 53 #[.pointer (some ⟨C, 0, none⟩)] w (PtD LE AnyE C g base TS pv ps ts.length (one ts) w))
    (hL : P.Less one) (hT : ∀ ts pv w, Dc w C g TS pv (.ok ts) → P.isS [105, 110, 105, 116] ts = true → tot ts = P.moreR tot (one ts)) :
    Calls Tryz.prog 51 #[mval 52 C, mval 53 C] w (ManyD IsEs (onIs [105, 110, 105, 116]) tot C g base TS pv ps st w) := by
  obtain ⟨i0, hi, hz0, hz1, hz2⟩ := info_parts Tryz.infoCe
  have HI := Lib.hid hi
  have HZ0 := Lib.hid hz0
  have HZ1 := Lib.hid hz1
  have HZ2 := Lib.hid hz2
  clear hi hz0 hz1 hz2
  obtain ⟨hCl, hgl⟩ := h.lts
  have hS0 := Mn.start (sz := 2) (mk := agg) (Val := LE) (ty := 55) (tot := tot) h hp
  have hsl : slen st ≤ 10000 := by
    rcases st with q | ts
    · exact Nat.zero_le _
    · obtain ⟨a, n, c, _, k, rfl, _⟩ := h.blk
      have := h.max
      show (TS.drop k).length ≤ _
      rw [List.length_drop]
      omega
  have HS0 := Lib.hid hS0
  have HMay := Lib.hid hMay
  have HOne := Lib.hid hOne
  have HL := Lib.hid hL
  have HT := Lib.hid hT
  clear h hp hS0 hMay hOne hL hT
  unfold mval
  go_enter Tryz.func51, Tryz.ntmps51
  go_wp2_with fail
  go_loopw [5] (fun l wr => ∃ pvj psj m vals r, Mn 2 agg LE 55 tot C g base TS pv ps st w l wr pvj psj m vals r) (fun _ wr => lnAt C wr)
  case atStart => exact ⟨_, _, _, _, _, HS0.out⟩
  case round =>
    obtain ⟨pvj, psj, m, vals, r, hM⟩ := hrel
    have HM := Lib.hid hM
    have HLN := Lib.hid hM.dc.lnAt
    have hsz := hM.only.size
    have hcnt := hM.cnt
    have hbnd := hM.bound
    obtain ⟨a, c, rfl⟩ := slice_of_own hM.own
    clear hM
    go_wp2_with fail
    have hcall := HMay.out (left r) pvj _ HM.out.dc
    with_reducible refine hcall.mono ?_
    rintro e w1 ⟨rfl, hb1⟩
    clear hcall
    cases hr : (onIs [105, 110, 105, 116]) (left r) with
    | false =>
      go_wp2_with fail
      go_ret
      refine ⟨_, pvj, psj, r, rfl, ⟨_, _, _, rfl⟩, HM.out.dc.below hb1, hr, HM.out.sum, own_below HM.out.pl hb1, HM.out.bound, HM.out.only.then (S' := fun _ => False) (Only.of_below hb1) (fun _ e => e.elim), HM.out.fr, ?_⟩
      intro es qs ts hh
      subst hh
      refine ⟨(HM.out.live es qs ts rfl).1, IsEs.step (Q := Nw w.heap.size pvj) ?_ HM.out.isEs⟩
      intro b hb hl
      exact ⟨hb, hb1.block b hl⟩
    | true =>
      rcases r with p | ⟨⟨es, qs⟩, ts⟩
      · cases hr
      · have hr' : P.isS [105, 110, 105, 116] ts = true := hr
        have hM1 : Mn 2 agg LE 55 tot C g base TS pv ps st w (.slice a m c) w1 pvj psj m vals (.ok ((es, qs), ts)) := ⟨own_below HM.out.own hb1, HM.out.dc.below hb1, own_below HM.out.pl hb1, HM.out.bound, HM.out.cnt, HM.out.only.then (S' := fun _ => False) (Only.of_below hb1) (fun _ e => e.elim), HM.out.fr, HM.out.sum, fun es' qs' ts' hh => by
          obtain ⟨x1, x2, x3⟩ := HM.out.live es' qs' ts' hh
          exact ⟨x1, x2, RowsV.step 2 agg LE leStep (fun b hb hl => ⟨hb, hb1.block b hl⟩) _ _ x3⟩⟩
        have HM1 := Lib.hid hM1
        have hs1 := hb1.size
        have ets : slen (left (.ok ((es, qs), ts) : P.Res (List CE × List Nat))) = ts.length := rfl
        have HO := Lib.hid (HOne.out ts pvj psj w1 hM1.dc hr' hM1.pl (by omega) (by omega) (by omega))
        have HTT := Lib.hid (HT.out ts pvj w1 hM1.dc hr')
        have hlive : 0 < ts.length := hM1.dc.live
        rw [ets] at hcnt hbnd HLN
        clear hM1 HM hb1 hr hr' ets
        go_wp2_with fail
        with_reducible refine HO.out.mono ?_
        rintro e w2 ⟨v, pv1, ps1, rfl, ⟨lc, k, rfl⟩, hd2, hp2, hbd2, ho2, hf2, hv2⟩
        have HST := Lib.hid (fun (w3 : World) (o : Obj) (g2 cap : Nat) hgr how hat => Mn.step (one := one ts) (w2 := w3) (o := o) (g2 := g2) (cap := cap) (cs := [.string lc, .int .i64 k]) leStep (by decide) hCl hgl HM1.out HTT.out (fun a r hh => HL.out _ _ _ hh) rfl hd2 hp2 hbd2 ho2 hf2 hv2 hgr how hat)
        have hs2 := ho2.size
        have hown2 := own_only HM1.out.own ho2 (by
          intro k hk
          rintro (e | e)
          · have := (HM1.out.own.lt k hk).1
            omega
          · exact own_types HM1.out.own HM1.out.pl (by decide) k hk e)
        clear hd2 hp2 hbd2 ho2 hf2 hv2
        go_wp2_with (at_builtin; refine wpList_append_lies _ rfl (.tmp 8) (.tmp 11) 24 rfl w.heap.size 55 i0 (.agg #[.string ⟨#[]⟩, .int .i64 0]) 2 24 Tryz.underlying24 HI.out HZ0.out HZ1.out HZ2.out rfl (by decide) (.slice a m c) m vals rfl (hown2.alloc _) ⟨w2.heap.size, 0, none⟩ 1 1 [.string lc, .int .i64 k] rfl rfl (cells_new _ #[.string lc, .int .i64 k] _) (two_one _ _) (by decide) (by unfold maxLen; omega) (by omega) (by simp; omega) (w2.heap.size + 1) (by simp) ?_; intro g3 c3' w3 hown3 hgrow3 hat3 hlt3)
        have HN := Lib.hid (HST.out w3 _ g3 c3' hgrow3 hown3 hat3)
        clear hown3 hgrow3 hat3
        go_wp2_with fail
        go_roundw
        case rel => exact ⟨_, _, _, _, _, HN.out.1⟩
        case measure =>
          rw [HN.out.1.dc.lnAt, HLN.out]
          exact HN.out.2
set_option maxHeartbeats 3200000 in
theorem manyT_d (C g base : Nat) (TS : List Tok) (pv : Value) (ps : List Nat) (st : Sta) (w : World) (tot : List Tok → P.Res (List (List ST) × List Nat)) (one : List Tok → P.Res (List ST × List Nat)) (h : Dc w C g TS pv st) (hp : OwnP w base pv ps) (hg : g < base) (hbase : base ≤ w.heap.size) (hn : ps.length + slen st ≤ 50000)
    (hMay : ∀ st pv w, Dc w C g TS pv st → Calls Tryz.prog 55 #[.pointer (some ⟨C, 0, none⟩)] w (fun e w' => e = .returned (.bool ((onIs [116, 104, 114, 101, 97, 100]) st)) ∧ Below w.heap.size w w'))
    (hOne : ∀ ts pv ps w, Dc w C g TS pv (.ok ts) → P.isS [116, 104, 114, 101, 97, 100] ts = true → OwnP w base pv ps → base ≤ w.heap.size → ps.length + ts.length ≤ 50000 → ts.length ≤ slen st → Calls Tryz.prog 56 #[.pointer (some ⟨C, 0, none⟩)] w (PtD IsSs AnySl C g base TS pv ps ts.length (one ts) w))
    (hL : P.Less one) (hT : ∀ ts pv w, Dc w C g TS pv (.ok ts) → P.isS [116, 104, 114, 101, 97, 100] ts = true → tot ts = P.moreR tot (one ts)) :
    Calls Tryz.prog 54 #[mval 55 C, mval 56 C] w (ManyD IsTs (onIs [116, 104, 114, 101, 97, 100]) tot C g base TS pv ps st w) := by
  obtain ⟨i0, hi, hz0, hz1, hz2⟩ := info_parts Tryz.infoSl
  have HI := Lib.hid hi
  have HZ0 := Lib.hid hz0
  have HZ1 := Lib.hid hz1
  have HZ2 := Lib.hid hz2
  clear hi hz0 hz1 hz2
  obtain ⟨hCl, hgl⟩ := h.lts
  have hS0 := Mn.start (sz := 1) (mk := hd1) (Val := IsSs) (ty := 50) (tot := tot) h hp
  have hsl : slen st ≤ 10000 := by
    rcases st with q | ts
    · exact Nat.zero_le _
    · obtain ⟨a, n, c, _, k, rfl, _⟩ := h.blk
      have := h.max
      show (TS.drop k).length ≤ _
      rw [List.length_drop]
      omega
  have HS0 := Lib.hid hS0
  have HMay := Lib.hid hMay
  have HOne := Lib.hid hOne
  have HL := Lib.hid hL
  have HT := Lib.hid hT
  clear h hp hS0 hMay hOne hL hT
  unfold mval
  go_enter Tryz.func54, Tryz.ntmps54
  go_wp2_with fail
  go_loopw [5] (fun l wr => ∃ pvj psj m vals r, Mn 1 hd1 IsSs 50 tot C g base TS pv ps st w l wr pvj psj m vals r) (fun _ wr => lnAt C wr)
  case atStart => exact ⟨_, _, _, _, _, HS0.out⟩
  case round =>
    obtain ⟨pvj, psj, m, vals, r, hM⟩ := hrel
    have HM := Lib.hid hM
    have HLN := Lib.hid hM.dc.lnAt
    have hsz := hM.only.size
    have hcnt := hM.cnt
    have hbnd := hM.bound
    obtain ⟨a, c, rfl⟩ := slice_of_own hM.own
    clear hM
    go_wp2_with fail
    have hcall := HMay.out (left r) pvj _ HM.out.dc
    with_reducible refine hcall.mono ?_
    rintro e w1 ⟨rfl, hb1⟩
    clear hcall
    cases hr : (onIs [116, 104, 114, 101, 97, 100]) (left r) with
    | false =>
      go_wp2_with fail
      go_ret
      refine ⟨_, pvj, psj, r, rfl, ⟨_, _, _, rfl⟩, HM.out.dc.below hb1, hr, HM.out.sum, own_below HM.out.pl hb1, HM.out.bound, HM.out.only.then (S' := fun _ => False) (Only.of_below hb1) (fun _ e => e.elim), HM.out.fr, ?_⟩
      intro es qs ts hh
      subst hh
      refine ⟨(HM.out.live es qs ts rfl).1, IsTs.step (Q := Nw w.heap.size pvj) ?_ HM.out.isTs⟩
      intro b hb hl
      exact ⟨hb, hb1.block b hl⟩
    | true =>
      rcases r with p | ⟨⟨es, qs⟩, ts⟩
      · cases hr
      · have hr' : P.isS [116, 104, 114, 101, 97, 100] ts = true := hr
        have hM1 : Mn 1 hd1 IsSs 50 tot C g base TS pv ps st w (.slice a m c) w1 pvj psj m vals (.ok ((es, qs), ts)) := ⟨own_below HM.out.own hb1, HM.out.dc.below hb1, own_below HM.out.pl hb1, HM.out.bound, HM.out.cnt, HM.out.only.then (S' := fun _ => False) (Only.of_below hb1) (fun _ e => e.elim), HM.out.fr, HM.out.sum, fun es' qs' ts' hh => by
          obtain ⟨x1, x2, x3⟩ := HM.out.live es' qs' ts' hh
          exact ⟨x1, x2, RowsV.step 1 hd1 IsSs issStep (fun b hb hl => ⟨hb, hb1.block b hl⟩) _ _ x3⟩⟩
        have HM1 := Lib.hid hM1
        have hs1 := hb1.size
        have ets : slen (left (.ok ((es, qs), ts) : P.Res (List (List ST) × List Nat))) = ts.length := rfl
        have HO := Lib.hid (HOne.out ts pvj psj w1 hM1.dc hr' hM1.pl (by omega) (by omega) (by omega))
        have HTT := Lib.hid (HT.out ts pvj w1 hM1.dc hr')
        have hlive : 0 < ts.length := hM1.dc.live
        rw [ets] at hcnt hbnd HLN
        clear hM1 HM hb1 hr hr' ets
        go_wp2_with fail
        with_reducible refine HO.out.mono ?_
        rintro e w2 ⟨v, pv1, ps1, rfl, ⟨a1, n1, c1, rfl⟩, hd2, hp2, hbd2, ho2, hf2, hv2⟩
        have HST := Lib.hid (fun (w3 : World) (o : Obj) (g2 cap : Nat) hgr how hat => Mn.step (one := one ts) (w2 := w3) (o := o) (g2 := g2) (cap := cap) (cs := [.slice a1 n1 c1]) issStep (by decide) hCl hgl HM1.out HTT.out (fun a r hh => HL.out _ _ _ hh) rfl hd2 hp2 hbd2 ho2 hf2 hv2 hgr how hat)
        have hs2 := ho2.size
        have hown2 := own_only HM1.out.own ho2 (by
          intro k hk
          rintro (e | e)
          · have := (HM1.out.own.lt k hk).1
            omega
          · exact own_types HM1.out.own HM1.out.pl (by decide) k hk e)
        clear hd2 hp2 hbd2 ho2 hf2 hv2
        go_wp2_with (at_builtin; refine wpList_append_lies _ rfl (.tmp 8) (.tmp 11) 25 rfl w.heap.size 50 i0 (.slice none 0 0) 1 24 Tryz.underlying25 HI.out HZ0.out HZ1.out HZ2.out rfl (by decide) (.slice a m c) m vals rfl (hown2.alloc _) ⟨w2.heap.size, 0, none⟩ 1 1 [.slice a1 n1 c1] rfl rfl (cells_new _ #[.slice a1 n1 c1] _) (sl_one _ _ _) (by decide) (by unfold maxLen; omega) (by omega) (by simp; omega) (w2.heap.size + 1) (by simp) ?_; intro g3 c3' w3 hown3 hgrow3 hat3 hlt3)
        have HN := Lib.hid (HST.out w3 _ g3 c3' hgrow3 hown3 hat3)
        clear hown3 hgrow3 hat3
        go_wp2_with fail
        go_roundw
        case rel => exact ⟨_, _, _, _, _, HN.out.1⟩
        case measure =>
          rw [HN.out.1.dc.lnAt, HLN.out]
          exact HN.out.2
end Go.Proofs.YtgobcflfhabdhaaGreatDoor.Lx
