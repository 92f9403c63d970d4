/-
  What lex.Lex tells, as a contract.
-/
import Derived.Test.YtgobcflfhabdhaaGreatDoorLMem
namespace Go.Proofs.YtgobcflfhabdhaaGreatDoor.Lx
open Go.RowKit
set_option maxRecDepth 100000
set_option linter.unusedVariables false
set_option linter.unusedSimpArgs false
theorem next_at (s : ByteArray) (k : Nat) (ki : Int) (w : World) (hs : s.size ≤ maxLen) (hk : k ≤ s.size) (hki : ki = (k : Int)) : Calls Tryz.prog 44 #[.string s, .int .i64 ki] w (NextTo s k w) := by
  subst hki
  exact next_any s k w hs hk
theorem new4' (w : World) (g : Nat) (hg : w.heap.size = g) (a c d : Int) (b : ByteArray) (t : TypeId) : ∀ j u, [Value.int .i64 a, .string b, .int .i64 c, .int .i64 d][j]? = some u → (w.alloc (.cells #[.int .i64 a, .string b, .int .i64 c, .int .i64 d] t)).cell? ((⟨g, 0, none⟩ : Addr).add j) = some u := by
  subst hg
  exact new4 w a c d b t
/-- What a round of Lex leaves. -/
def LexR (s : ByteArray) (w0 : World) (v t : Value) (wr : World) : Prop :=
  ∃ (m : Nat) (ts : List L.Tok), t = .int .i64 m ∧ m ≤ s.size ∧ Front (rest s m) ∧ L.lexL 0 (by' s) = L.pre ts (L.lexL m (rest s m)) ∧ ts.length ≤ m ∧ Own wr w0.heap.size v ts ∧ Blk wr w0.heap.size 37 #[.int .i64 0, .int .i64 0] ∧ Below w0.heap.size w0 wr
/-- One token more. -/
theorem lexR_more {s : ByteArray} {w0 wr w1 w2 : World} {m j kind n v : Nat} {ts : List L.Tok} {val val' : Value} {o : Obj} (hm : m < s.size) (hn : L.nx s[m] (rest s (m + 1)) = .tok kind n v)
    (he : L.lexL 0 (by' s) = L.pre ts (L.lexL m (rest s m))) (hl : ts.length ≤ m) (hB : Blk wr w0.heap.size 37 #[.int .i64 0, .int .i64 0]) (hbel : Below w0.heap.size w0 wr) (hown : Own wr w0.heap.size val ts) (hb1 : Below wr.heap.size wr w1) (o1 o2 : Obj)
    (hown2 : w2.ownsRow w0.heap.size 104 4 val' (ts.length + 1) (flat ts ++ [.int .i64 kind, .string (s.extract m (m + n)), .int .i64 v, .int .i64 m])) (hg : ((w1.alloc o1).alloc o2).grownBy w2 val.ownBlock)
    (hj : m + n ≤ j) (hjs : j ≤ s.size) (hje : L.lexL (m + n) (rest s (m + n)) = L.lexL j (rest s j)) (hf : Front (rest s j)) : LexR s w0 val' (.int .i64 j) w2 := by
  have hin := nx_in hm hn
  have hsz := hbel.size
  have hsz1 := hb1.size
  have hown1 := own_below hown hb1
  have hB1 := hB.below hb1 hB.lt
  refine ⟨j, ts ++ [⟨kind, by' (s.extract m (m + n)), v, m⟩], rfl, hjs, hf, ?_, ?_, ?_, ?_, ?_⟩
  · rw [he, tok_at hm hn, L.pre_pre, hje]
  · rw [List.length_append]
    show ts.length + 1 ≤ j
    omega
  · exact own_snoc hown2 rfl rfl rfl rfl
  · exact (hg.block _ ((hB1.alloc o1).alloc o2).lt (fun e => own_ne hown hB (by decide) e.symm)).trans ((hB1.alloc o1).alloc o2)
  · exact (((hbel.trans (hb1.mono hsz)).alloc (by omega) _).alloc (by simp; omega) _).grown hg (by simp; omega) (fun k hk => (hown.lt k hk).1)
theorem fault_blk {w : World} {g : Nat} {t : TypeId} {a b a' b' : Value} (h : Blk w g t #[a, b]) : Blk ((w.setCell ⟨g, 0, none⟩ a').setCell ⟨g, 1, none⟩ b') g t #[a', b'] := (h.set 0 a').set 1 b'
theorem lexTo_end {s : ByteArray} {w0 wr w2 : World} {m : Nat} {ts : List L.Tok} {val val' : Value} (hm : ¬ m < s.size) (hms : m ≤ s.size)
    (he : L.lexL 0 (by' s) = L.pre ts (L.lexL m (rest s m))) (hB : Blk wr w0.heap.size 37 #[.int .i64 0, .int .i64 0]) (hbel : Below w0.heap.size w0 wr) (hown : Own wr w0.heap.size val ts) (o : Obj)
    (hown2 : w2.ownsRow w0.heap.size 104 4 val' (ts.length + 1) (flat ts ++ [.int .i64 4, .string ⟨#[]⟩, .int .i64 0, .int .i64 m])) (hg : (wr.alloc o).grownBy w2 val.ownBlock) (hB2 : Blk w2 w0.heap.size 37 #[.int .i64 0, .int .i64 0]) :
    LexTo (L.lexL 0 (by' s)) w0 (.returned (.tuple #[val', .agg #[.int .i64 0, .int .i64 0]])) ((w2.setCell ⟨w0.heap.size, 0, none⟩ (.int .i64 0)).setCell ⟨w0.heap.size, 1, none⟩ (.int .i64 0)) := by
  have hsz := hbel.size
  rw [he, end_at hm]
  have hne := own_ne (t' := 37) hown2 hB2 (by decide)
  have hb2 : Below w0.heap.size w0 w2 := (hbel.alloc hsz _).grown hg (by simp; omega) (fun k hk => (hown.lt k hk).1)
  refine ⟨val', rfl, own_snoc (ts := ts) (t := ⟨4, [], 0, m⟩) (ownsRow_setCell_other (a := ⟨w0.heap.size, 1, none⟩) (ownsRow_setCell_other (a := ⟨w0.heap.size, 0, none⟩) hown2 hne _) hne _) rfl rfl rfl rfl, ?_⟩
  exact (hb2.setCell (p := ⟨w0.heap.size, 0, none⟩) (Nat.le_refl _) _).setCell (p := ⟨w0.heap.size, 1, none⟩) (Nat.le_refl _) _
theorem lexTo_bad {s : ByteArray} {w0 wr w1 : World} {m ex : Nat} {x : L.Bad} {ts : List L.Tok} (hx : eno x = ex) (hb : L.lexL m (rest s m) = .error (x, m))
    (he : L.lexL 0 (by' s) = L.pre ts (L.lexL m (rest s m))) (hbel : Below w0.heap.size w0 wr) (hb1 : Below wr.heap.size wr w1) (o : Obj) :
    LexTo (L.lexL 0 (by' s)) w0 (.returned (.tuple #[.slice none 0 0, .agg #[.int .i64 (ex : Nat), .int .i64 (m : Nat)]])) (((w1.setCell ⟨w0.heap.size, 0, none⟩ (.int .i64 (ex : Nat))).setCell ⟨w0.heap.size, 1, none⟩ (.int .i64 (m : Nat))).alloc o) := by
  have hsz := hbel.size
  have hsz1 := hb1.size
  rw [he, hb, ← hx]
  refine ⟨_, rfl, World.ownsRow_nil _ _ _ _, ?_⟩
  exact (((hbel.trans (hb1.mono hsz)).setCell (p := ⟨w0.heap.size, 0, none⟩) (Nat.le_refl _) _).setCell (p := ⟨w0.heap.size, 1, none⟩) (Nat.le_refl _) _).alloc (by simp; omega) _
theorem two_cells {w : World} {g : Nat} {t : TypeId} {a b : Value} (h : Blk w g t #[a, b]) : w.cell? ⟨g, 0, none⟩ = some a ∧ w.cell? ⟨g, 1, none⟩ = some b ∧ w.frozen? ⟨g, 0, none⟩ = false ∧ w.frozen? ⟨g, 1, none⟩ = false := ⟨h.cell 0, h.cell 1, h.free 0, h.free 1⟩
set_option maxHeartbeats 1600000 in
theorem lex_short (s : ByteArray) (w : World) (hs : s.size ≤ 4096) : Calls Tryz.prog 34 #[.string s] w (LexTo (L.lexL 0 (by' s)) w) := by
  obtain ⟨i0, hi, hz0, hz1, hz2⟩ := info_parts Tryz.infoTok
  have HI := Lib.hid hi
  have HZ0 := Lib.hid hz0
  have HZ1 := Lib.hid hz1
  have HZ2 := Lib.hid hz2
  clear hi hz0 hz1 hz2
  have HS := Lib.hid (show s.size ≤ maxLen by unfold maxLen; omega)
  have hb0 : decide ((4096 : Int) < (s.size : Int)) = false := by simp; omega
  go_enter Tryz.func34, Tryz.ntmps34
  go_wp2_with fail
  with_reducible refine (next_at s 0 0 _ HS.out (by omega) rfl).mono ?_
  rintro e w' ⟨m0, rfl, h0, hm0, he0, hf0, rfl⟩
  have HE0 := Lib.hid he0
  have HF0 := Lib.hid hf0
  clear he0 hf0 h0
  go_wp2_with fail
  go_loopw [4, 5] (fun v t wr => LexR s w v t wr) (fun _ t _ => s.size - (intOf t).toNat)
  case atStart =>
    refine ⟨m0, [], rfl, hm0, HF0.out, ?_, by simp, World.ownsRow_nil _ _ _ _, Blk.new _ _ _, (Below.refl _ _).alloc (Nat.le_refl _) _⟩
    rw [L.pre_nil]
    exact HE0.out
  case round =>
    obtain ⟨m, ts, rfl, hm, hf, he, hl, hown, hB, hbel⟩ := hrel
    have HF := Lib.hid hf
    have HE := Lib.hid he
    clear hf he HE0 HF0
    have hsz := hbel.size
    by_cases hlt : m < s.size
    · have HT := token_any s m wr HS.out hlt HF.out
      cases hn : L.nx s[m] (rest s (m + 1)) with
      | skip x =>
        rw [hn] at HT
        have HT' := Lib.hid HT
        clear HT hn
        go_wp2_with fail
        with_reducible refine HT'.out.mono ?_
        intro e w1 hfalse
        exact hfalse.elim
      | tok kind n v =>
        have hin := nx_in hlt hn
        rw [hn] at HT
        have HT' := Lib.hid HT
        have HM := Lib.hid (fun w1 hb1 o1 o2 val' w2 hown2 hg j hj hjs hje hf => lexR_more (w1 := w1) (w2 := w2) (val' := val') (j := j) (o := o1) hlt hn HE.out hl hB hbel hown hb1 o1 o2 hown2 hg hj hjs hje hf)
        have HX := Lib.hid (ext_size s m n hin.2)
        clear HT hn
        go_wp2_with fail
        with_reducible refine HT'.out.mono ?_
        rintro e w1 ⟨rfl, hb1⟩
        generalize s.extract m (m + n) = T at *
        have hsz1 := hb1.size
        have hown1 := own_below hown hb1
        have hTn : T.size = n := HX.out
        have hTs : m + T.size ≤ s.size := by omega
        have hTp : 0 < T.size := by omega
        clear hTn
        go_wp2_with (at_builtin; refine wpList_append_own _ rfl (.tmp 29) (.tmp 31) 88 rfl w.heap.size 104 i0 (.agg #[.int .i64 0, .string ⟨#[]⟩, .int .i64 0, .int .i64 0]) 4 40 Tryz.underlying88 HI.out HZ0.out HZ1.out HZ2.out rfl (by decide) _ _ _ rfl ((hown1.alloc _).alloc _) ⟨w1.heap.size + 1, 0, none⟩ 1 1 [.int .i64 kind, .string T, .int .i64 v, .int .i64 m] rfl rfl (new4' _ _ (by simp) _ _ _ _ _) (one4 _ _ _ _) (by unfold maxLen; omega) (by omega) (by simp; omega) ?_; intro v' w2 hown2 hgrow2 _; have hk2 : Blk w2 w1.heap.size 104 #[.int .i64 kind, .string T, .int .i64 v, .int .i64 m] := (hgrow2.block w1.heap.size (by simp; omega) (fun e => by have := (hown.lt _ e.symm).2; omega)).trans ((Blk.new w1 _ _).alloc _); have hk3 : w2.cell? ⟨w1.heap.size, 1, none⟩ = some (.string T) := hk2.cell 1)
        with_reducible refine (next_at s (m + T.size) ((m : Int) + (T.size : Int)) _ HS.out hTs (by simp)).mono ?_
        rintro e w3 ⟨j, rfl, hj, hjs, hje, hfj, rfl⟩
        have HJE := Lib.hid hje
        have HFJ := Lib.hid hfj
        clear hje hfj
        go_wp2_with fail
        go_roundw
        case rel => exact HM.out w1 hb1 _ _ v' w2 hown2 hgrow2 j (by rw [← HX.out]; exact hj) hjs (by have := HJE.out; rw [HX.out] at this; exact this) HFJ.out
        case measure => simp [intOf]; omega
      | bad x =>
        have HBD := Lib.hid (bad_at hlt hn)
        rw [hn] at HT
        have HT' := Lib.hid HT
        clear HT hn
        go_wp2_with fail
        with_reducible refine HT'.out.mono ?_
        rintro e w1 ⟨rfl, hb1⟩
        have hB1 := hB.below hb1 hB.lt
        obtain ⟨c0, c1, f0, f1⟩ := two_cells hB1
        have hne : ((eno x : Nat) : Int) ≠ 0 := eno_ne x
        have hsz1 := hb1.size
        have hBl := hB1.lt
        generalize hex : eno x = ex at *
        have HX := Lib.hid hex
        clear hex
        have hne1 : (((ex : Nat) : Int) != 0) = true := by simpa using hne
        have hne2 : (((ex : Nat) : Int) == 0) = false := by simpa using hne
        go_wp2_with fail
        exact bodyPost_ret (results_two (q := 2) (p := 3) rfl _ _ (.slice none 0 0) w.heap.size 37 #[.int .i64 (ex : Nat), .int .i64 (m : Nat)] (0, 0) _ rfl rfl (Blk.alloc (fault_blk hB1) _) Tryz.underlying37 rfl (by kernel_rfl)) rfl (lexTo_bad HX.out HBD.out HE.out hbel hb1 _)
    · have HD := Lib.hid (fun o val' w2 hown2 hg hB2 => lexTo_end (w2 := w2) (val' := val') hlt hm HE.out hB hbel hown o hown2 hg hB2)
      have hBl := hB.lt
      have HNE := Lib.hid (own_ne (t' := 37) hown hB (by decide))
      go_wp2_with (at_builtin; refine wpList_append_own _ rfl (.tmp 40) (.tmp 43) 88 rfl w.heap.size 104 i0 (.agg #[.int .i64 0, .string ⟨#[]⟩, .int .i64 0, .int .i64 0]) 4 40 Tryz.underlying88 HI.out HZ0.out HZ1.out HZ2.out rfl (by decide) _ _ _ rfl (hown.alloc _) ⟨wr.heap.size, 0, none⟩ 1 1 [.int .i64 4, .string ⟨#[]⟩, .int .i64 0, .int .i64 m] rfl rfl (new4' _ _ rfl _ _ _ _ _) (one4 _ _ _ _) (by unfold maxLen; omega) (by omega) (by simp; omega) ?_; intro v' w2 hown2 hgrow2 _; have hB2 : Blk w2 w.heap.size 37 #[.int .i64 0, .int .i64 0] := (hgrow2.block w.heap.size (hB.alloc _).lt (fun e => HNE.out e.symm)).trans (hB.alloc _); obtain ⟨c0, c1, f0, f1⟩ := two_cells hB2)
      exact bodyPost_ret (results_two (q := 2) (p := 3) rfl _ _ v' w.heap.size 37 #[.int .i64 0, .int .i64 0] (0, 0) _ rfl rfl (fault_blk hB2) Tryz.underlying37 rfl (by kernel_rfl)) rfl (HD.out _ _ _ hown2 hgrow2 hB2)
set_option maxHeartbeats 400000 in
theorem lex_great (s : ByteArray) (w : World) (hs : ¬ s.size ≤ 4096) : Calls Tryz.prog 34 #[.string s] w (LexTo (.error (.long, 0)) w) := by
  have hb0 : decide ((4096 : Int) < (s.size : Int)) = true := by simp; omega
  go_enter Tryz.func34, Tryz.ntmps34
  go_wp2_with fail
  exact bodyPost_ret (results_two (q := 2) (p := 3) rfl _ _ (.slice none 0 0) w.heap.size 37 #[.int .i64 3, .int .i64 0] (0, 0) _ rfl rfl (Blk.new w _ _) Tryz.underlying37 rfl (by kernel_rfl)) rfl ⟨_, rfl, World.ownsRow_nil _ _ _ _, (Below.refl _ _).alloc (Nat.le_refl _) _⟩
theorem lex_any (s : ByteArray) (w : World) : Calls Tryz.prog 34 #[.string s] w (LexTo (lexA s) w) := by
  unfold lexA
  split
  · exact lex_short s w ‹_›
  · exact lex_great s w ‹_›
end Go.Proofs.YtgobcflfhabdhaaGreatDoor.Lx
