/-
  Saving among the steps; two pairs; All's walk.
-/
import Derived.Test.YtpfahgogjeignaaDoorLawJ
import Derived.Test.YtpfahgogjeignaaDoorProS
set_option linter.unusedVariables false
set_option linter.unusedSimpArgs false
namespace Go.Proofs.YtpfahgogjeignaaDoor
open Go.RowKit
attribute [local go_sem ↓] Go.wp_at_zero Go.wp_at_succ

theorem BAt.of' {w : World} {b : Nat} {t : TypeId} {arr arr' : Array Value} (h : BAt w b t arr) (e : arr = arr') : BAt w b t arr' := by rw [e] at h; exact h

set_option maxRecDepth 100000 in
set_option maxHeartbeats 1000000 in
theorem saved_any (m B0 p b : Nat) (A : RA) (s : PC) (r : RS) (hm9 : (m : Int) < 9000000000000000000) (w : World) (hl : Lib w) (hL : Live m B0 w p b A s r) :
    Calls Tryd.prog 24 #[.pointer (some ⟨p, 0, none⟩)] w fun e w' => e = .returned (.bool true) ∧ (∃ b', Live (m + 1) B0 w' p b' A s r ∧ Stepped p b b' r.n A A w w') ∧ Below B0 w w' := by
  have HS : Hid (Calls Tryd.prog 28 #[.pointer (some ⟨b, 0, none⟩)] w fun e w' => e = .returned (.string (saveText s)) ∧ Same w w') := save_any b s m (hL.fit hm9) hm9 w hl hL.pair.hc
  have HLD : Hid (∀ W, Lib W → Calls Tryd.prog 29 #[.string (saveText s)] W fun e w' => ∃ b', e = .returned (.tuple #[.pointer (some ⟨b', 0, none⟩), .int .i64 0]) ∧ W.heap.size ≤ b' ∧ PAt w' b' s ∧ Same W w') := fun W h => load_saved s m (hL.fit hm9) hm9 W h
  generalize saveText s = T at *
  have HL : Hid (Live m B0 w p b A s r) := hL
  have LIB : Hid (Lib w) := hl
  have hc0 : w.cell? ⟨p, 0, none⟩ = some (.pointer (some ⟨b, 0, none⟩)) := hL.pair.hp.cell 0
  have hpl := hL.pair.hp.lt
  clear hL hl
  go_enter Tryd.func24, Tryd.ntmps24
  go_wp2_with fail
  refine HS.out.mono ?_
  rintro e w1 ⟨rfl, k1⟩
  go_wp2_with fail
  refine (HLD.out _ (LIB.out.below (k1.below (Nat.le_refl _) (fun _ _ h => h)))).mono ?_
  rintro e w2 ⟨b', rfl, hb', hp2, k2⟩
  have kk := k1.trans k2
  have hpp := HL.out.pair.hp.kept kk (fun h => h)
  have q0 : w2.cell? ⟨p, 0, none⟩ = some (.pointer (some ⟨b, 0, none⟩)) := hpp.cell 0
  have qf : w2.frozen? ⟨p, 0, none⟩ = false := hpp.free 0
  have ql := hpp.lt
  have z1 := k1.size
  have KK : Hid (Same w w2) := kk
  clear k1 k2 kk hc0 HS HLD LIB
  go_wp2_with fail
  go_ret
  have hL := HL.out
  have kk := KK.out
  have hbase := hL.base
  have hpb : p ≠ b' := by omega
  have hw : Wrote p w2 (w2.setCell ⟨p, 0, none⟩ (.pointer (some ⟨b', 0, none⟩))) := Wrote.set (Kept.refl _ _) _ _
  refine ⟨rfl, ⟨b', ⟨⟨BAt.of' (hpp.set 0 _) rfl, PAt.far hp2 _ (Ne.symm hpb) _, (hL.pair.hr.same kk).kept hw (fun g hg e => hL.pair.pr (by rw [← e]; exact hg)), hpb, hL.pair.pr, fun h => ?_⟩, hL.sim, ?_, hL.pl, by omega, hL.al, fun i k => Nat.le_succ_of_le (hL.len i k), fun hm => (hL.fit (by omega)).later⟩, ⟨Kept.setCell (kk.mono (fun _ e => e.elim)) _ (.inl (.inl rfl)) _, .inr (by omega), fun _ h => .inl h⟩⟩, ?_⟩
  · have := hL.pair.hr.in_lt b' h
    omega
  · have := hw.size
    have := kk.size
    omega
  · exact (kk.below hbase (fun _ _ h => h)).trans (hw.below (Nat.le_trans hbase kk.size) (fun q hq e => by have := hL.pl; omega))

set_option maxRecDepth 100000 in
set_option maxHeartbeats 1000000 in
theorem step_all (m B0 p b : Nat) (A : RA) (s : PC) (r : RS) (k x y z : Int) (hm : (m + 1) * 24 ≤ 140737488355328) (w : World) (hl : Lib w) (hL : Live m B0 w p b A s r) :
    Calls Tryd.prog 8 #[.pointer (some ⟨p, 0, none⟩), .agg #[.int .i64 k, .int .i64 x, .int .i64 y, .int .i64 z]] w fun e w' => e = .returned (.bool true) ∧ (∃ b' A' s' r', Live (m + 1) B0 w' p b' A' s' r' ∧ r'.n = r.n ∧ Stepped p b b' r.n A A' w w') ∧ Below B0 w w' := by
  by_cases h13 : k = 13
  · subst h13
    have ka := (Kept.refl (fun _ => False) w).alloc (.cells #[.int .i64 13, .int .i64 x, .int .i64 y, .int .i64 z] 30)
    have HSV : Hid (Calls Tryd.prog 24 #[.pointer (some ⟨p, 0, none⟩)] (w.alloc (.cells #[.int .i64 13, .int .i64 x, .int .i64 y, .int .i64 z] 30)) fun e w' => e = .returned (.bool true) ∧ (∃ b', Live (m + 1) B0 w' p b' A s r ∧ Stepped p b b' r.n A A (w.alloc (.cells #[.int .i64 13, .int .i64 x, .int .i64 y, .int .i64 z] 30)) w') ∧ Below B0 (w.alloc (.cells #[.int .i64 13, .int .i64 x, .int .i64 y, .int .i64 z] 30)) w') := saved_any m B0 p b A s r (by omega) _ (hl.below (ka.below (Nat.le_refl _) (fun _ _ h => h))) (hL.same ka)
    have hbel : Below B0 w (w.alloc (.cells #[.int .i64 13, .int .i64 x, .int .i64 y, .int .i64 z] 30)) := (Below.refl _ _).alloc hL.base _
    clear hL hl hm
    go_enter Tryd.func8, Tryd.ntmps8
    go_wp2_with fail
    refine HSV.out.mono ?_
    rintro e w3 ⟨rfl, ⟨b3, hL3, st3⟩, hb3⟩
    go_wp2_with fail
    go_ret
    exact ⟨rfl, ⟨b3, A, s, r, hL3, rfl, st3.before ka⟩, hbel.trans hb3⟩
  · refine (step_any m B0 p b A s r k x y z hm h13 w hL).mono ?_
    rintro e w' ⟨rfl, ⟨A', s', r', h1, h2, h3⟩, h4⟩
    exact ⟨rfl, ⟨b, A', s', r', h1, h2, h3⟩, h4⟩

end Go.Proofs.YtpfahgogjeignaaDoor

namespace Go.Proofs.YtpfahgogjeignaaDoor
open Go.RowKit
attribute [local go_sem ↓] Go.wp_at_zero Go.wp_at_succ

theorem Live.kept {m B0 : Nat} {w w' : World} {p b : Nat} {A : RA} {s : PC} {r : RS} {S : Nat → Prop} (h : Live m B0 w p b A s r) (k : Kept S w w') (hs : ∀ g, (g = p ∨ g = b ∨ A.in r.n g) → ¬ S g) : Live m B0 w' p b A s r :=
  ⟨⟨h.pair.hp.kept k (hs p (.inl rfl)), h.pair.hc.kept k (hs b (.inr (.inl rfl))), h.pair.hr.kept k (fun g hg => hs g (.inr (.inr hg))), h.pair.pb, h.pair.pr, h.pair.br⟩, h.sim, Nat.le_trans h.base k.size, h.pl, h.bl, h.al, h.len, h.fit⟩
theorem Live.own_lt {m B0 : Nat} {w : World} {p b : Nat} {A : RA} {s : PC} {r : RS} (h : Live m B0 w p b A s r) : ∀ g, (g = p ∨ g = b ∨ A.in r.n g) → g < w.heap.size := by
  rintro g (rfl | rfl | hg)
  · exact h.pair.hp.lt
  · exact h.pair.hc.lt
  · exact h.pair.hr.in_lt g hg

/-- A pair, or none; O: its blocks. -/
def Slot (v : Value) (i B0 : Nat) (w : World) (O : Nat → Prop) : Prop :=
  (v = .pointer none ∧ ∀ g, ¬ O g) ∨ ∃ p b A s r, v = .pointer (some ⟨p, 0, none⟩) ∧ Live i B0 w p b A s r ∧ ∀ g, O g ↔ (g = p ∨ g = b ∨ A.in r.n g)
theorem Slot.kept {v : Value} {i B0 : Nat} {w w' : World} {O S : Nat → Prop} (h : Slot v i B0 w O) (k : Kept S w w') (hs : ∀ g, O g → ¬ S g) : Slot v i B0 w' O := by
  rcases h with h | ⟨p, b, A, s, r, rfl, hL, hO⟩
  · exact .inl h
  · exact .inr ⟨p, b, A, s, r, rfl, hL.kept k (fun g hg => hs g ((hO g).2 hg)), hO⟩
theorem Slot.later {v : Value} {i B0 : Nat} {w : World} {O : Nat → Prop} (h : Slot v i B0 w O) : Slot v (i + 1) B0 w O := by
  rcases h with h | ⟨p, b, A, s, r, rfl, hL, hO⟩
  · exact .inl h
  · exact .inr ⟨p, b, A, s, r, rfl, hL.later, hO⟩
theorem Slot.lt {v : Value} {i B0 : Nat} {w : World} {O : Nat → Prop} (h : Slot v i B0 w O) : ∀ g, O g → g < w.heap.size := by
  rcases h with h | ⟨p, b, A, s, r, rfl, hL, hO⟩
  · exact fun g hg => absurd hg (h.2 g)
  · exact fun g hg => hL.own_lt g ((hO g).1 hg)
/-- Two of them, apart. -/
def Twain (v1 v2 : Value) (i B0 : Nat) (w : World) : Prop := ∃ O1 O2, Slot v1 i B0 w O1 ∧ Slot v2 i B0 w O2 ∧ ∀ g, O1 g → ¬ O2 g
theorem Twain.swap {v1 v2 : Value} {i B0 : Nat} {w : World} (h : Twain v1 v2 i B0 w) : Twain v2 v1 i B0 w := by
  obtain ⟨O1, O2, h1, h2, h3⟩ := h
  exact ⟨O2, O1, h2, h1, fun g a b => h3 g b a⟩
theorem Twain.later {v1 v2 : Value} {i B0 : Nat} {w : World} (h : Twain v1 v2 i B0 w) : Twain v1 v2 (i + 1) B0 w := by
  obtain ⟨O1, O2, h1, h2, h3⟩ := h
  exact ⟨O1, O2, h1.later, h2.later, h3⟩
/-- A step of the first. -/
theorem twain_step {v2 : Value} {i B0 p : Nat} (k x y z : Int) (hm : (i + 1) * 24 ≤ 140737488355328) (w : World) (hl : Lib w) (h : Twain (.pointer (some ⟨p, 0, none⟩)) v2 i B0 w) :
    Calls Tryd.prog 8 #[.pointer (some ⟨p, 0, none⟩), .agg #[.int .i64 k, .int .i64 x, .int .i64 y, .int .i64 z]] w fun e w' => e = .returned (.bool true) ∧ Twain (.pointer (some ⟨p, 0, none⟩)) v2 (i + 1) B0 w' ∧ Below B0 w w' := by
  obtain ⟨O1, O2, h1, h2, h3⟩ := h
  rcases h1 with ⟨e, _⟩ | ⟨p', b, A, s, r, e, hL, hO⟩
  · cases e
  · obtain rfl : p = p' := by simpa using e
    refine (step_all i B0 p b A s r k x y z hm w hl hL).mono ?_
    rintro e w' ⟨rfl, ⟨b', A', s', r', hL', hn, st⟩, hb⟩
    refine ⟨rfl, ⟨fun g => g = p ∨ g = b' ∨ A'.in r'.n g, O2, .inr ⟨p, b', A', s', r', rfl, hL', fun g => Iff.rfl⟩, (h2.kept st.kept (fun g hg hs => h3 g ((hO g).2 hs) hg)).later, ?_⟩, hb⟩
    intro g hg h2g
    have lt2 := h2.lt g h2g
    have old : O1 g → False := fun h => h3 g h h2g
    rcases hg with rfl | rfl | hg
    · exact old ((hO _).2 (.inl rfl))
    · rcases st.bn with e | e
      · exact old ((hO _).2 (.inr (.inl e)))
      · omega
    · rw [hn] at hg
      rcases st.an g hg with e | e
      · exact old ((hO _).2 (.inr (.inr e)))
      · omega

end Go.Proofs.YtpfahgogjeignaaDoor

namespace Go.Proofs.YtpfahgogjeignaaDoor
open Go.RowKit
attribute [local go_sem ↓] Go.wp_at_zero Go.wp_at_succ

theorem made_slot (le wi : Int) (a : Option Addr) (n cap B0 : Nat) (R B : Nat → Int) (w : World) (hb : B0 ≤ w.heap.size) (hT : Ten w a n R B) (hn : n * 16 ≤ 140737488355328) :
    Calls Tryd.prog 7 #[.agg #[.int .i64 le, .int .i64 wi, .slice a n cap]] w fun e w' => ∃ (v : Value) (O : Nat → Prop), e = .returned (.tuple #[v, .bool true]) ∧ Slot v 0 B0 w' O ∧ (∀ g, O g → w.heap.size ≤ g) ∧ Same w w' := by
  rcases Classical.em (Good le wi n R B) with g | no
  · refine (made_yes le wi a n cap R B w hT hn g).mono ?_
    rintro e w' ⟨p, b, A, rfl, hp, hS, hpl, hbl, hAl⟩
    have hL : Live 0 B0 w' p b A (PC.fresh le wi n R B n 2 (-1)) (RS.fresh le wi n R B) := ⟨hp, sim_fresh g, Nat.le_trans hb hS.size, by omega, by omega, fun q hq => Nat.le_trans hb (hAl q hq), fun _ _ => Nat.le_refl _, fun _ => fit_fresh g⟩
    refine ⟨_, fun q => q = p ∨ q = b ∨ A.in n q, rfl, .inr ⟨p, b, A, _, _, rfl, hL, fun q => Iff.rfl⟩, ?_, hS⟩
    rintro q (rfl | rfl | hq)
    · exact hpl
    · exact hbl
    · exact hAl q hq
  · refine (made_no le wi a n cap R B w hT hn no).mono ?_
    rintro e w' ⟨rfl, hS⟩
    exact ⟨_, fun _ => False, rfl, .inl ⟨rfl, fun _ h => h⟩, fun _ h => h.elim, hS⟩

set_option maxRecDepth 100000 in
set_option maxHeartbeats 4000000 in
theorem all_walk (le wi le2 wi2 : Int) (a a2 sa : Option Addr) (n cap n2 cap2 sn scap : Nat) (R B R2 B2 K X Y Z : Nat → Int) (w : World) (hT : Ten w a n R B) (hT2 : Ten w a2 n2 R2 B2) (hn : n * 16 ≤ 140737488355328) (hn2 : n2 * 16 ≤ 140737488355328) (hsn : sn * 32 ≤ 140737488355328) (hS : Scr w sa sn K X Y Z) (hlib : Lib w) :
    Calls Tryd.prog 4 #[.agg #[.int .i64 le, .int .i64 wi, .slice a n cap], .agg #[.int .i64 le2, .int .i64 wi2, .slice a2 n2 cap2], .slice sa sn scap] w fun e w' => e = .returned (.bool true) ∧ Below w.heap.size w w' := by
  have kA : Same w ((w.alloc (.cells #[.int .i64 le, .int .i64 wi, .slice a n cap] 24)).alloc (.cells #[.int .i64 le2, .int .i64 wi2, .slice a2 n2 cap2] 24)) := Kept.alloc (Kept.alloc (Kept.refl _ _) _) _
  have HM1 : Hid (Calls Tryd.prog 7 #[.agg #[.int .i64 le, .int .i64 wi, .slice a n cap]] ((w.alloc (.cells #[.int .i64 le, .int .i64 wi, .slice a n cap] 24)).alloc (.cells #[.int .i64 le2, .int .i64 wi2, .slice a2 n2 cap2] 24)) fun e w' => ∃ (v : Value) (O : Nat → Prop), e = .returned (.tuple #[v, .bool true]) ∧ Slot v 0 w.heap.size w' O ∧ (∀ g, O g → ((w.alloc (.cells #[.int .i64 le, .int .i64 wi, .slice a n cap] 24)).alloc (.cells #[.int .i64 le2, .int .i64 wi2, .slice a2 n2 cap2] 24)).heap.size ≤ g) ∧ Same ((w.alloc (.cells #[.int .i64 le, .int .i64 wi, .slice a n cap] 24)).alloc (.cells #[.int .i64 le2, .int .i64 wi2, .slice a2 n2 cap2] 24)) w') := made_slot le wi a n cap w.heap.size R B _ kA.size (hT.same kA) hn
  have HM2 : Hid (∀ W, Same w W → Calls Tryd.prog 7 #[.agg #[.int .i64 le2, .int .i64 wi2, .slice a2 n2 cap2]] W fun e w' => ∃ (v : Value) (O : Nat → Prop), e = .returned (.tuple #[v, .bool true]) ∧ Slot v 0 w.heap.size w' O ∧ (∀ g, O g → W.heap.size ≤ g) ∧ Same W w') := fun W hW => made_slot le2 wi2 a2 n2 cap2 w.heap.size R2 B2 W hW.size (hT2.same hW) hn2
  have hb4 := BAt.made' (w.alloc (.cells #[.int .i64 le, .int .i64 wi, .slice a n cap] 24)) (w.heap.size + 1) (by simp) 24 #[.int .i64 le2, .int .i64 wi2, .slice a2 n2 cap2]
  have HS : Hid (Scr w sa sn K X Y Z) := hS
  have HSN : Hid (sn * 32 ≤ 140737488355328) := hsn
  have LIB : Hid (Lib w) := hlib
  have sni : (sn : Int) < 9000000000000 := by omega
  clear hT hT2 hn hn2 hS hsn hlib
  go_enter Tryd.func4, Tryd.ntmps4
  go_wp2_with fail
  refine HM1.out.mono ?_
  rintro e w2 ⟨v1, O1, rfl, hs1, ho1, k2⟩
  have kB := kA.trans k2
  have hb5 := hb4.kept k2 (fun h => h)
  have c0 : w2.cell? ⟨w.heap.size + 1, 0, none⟩ = some (.int .i64 le2) := hb5.cell 0
  have c1 : w2.cell? ⟨w.heap.size + 1, 1, none⟩ = some (.int .i64 wi2) := hb5.cell 1
  have c2 : w2.cell? ⟨w.heap.size + 1, 2, none⟩ = some (.slice a2 n2 cap2) := hb5.cell 2
  clear HM1 kA hb4 k2 ho1
  go_wp2_with fail
  refine (HM2.out _ kB).mono ?_
  rintro e w3 ⟨v2, O2, rfl, hs2, ho2, k3⟩
  have T0 : Hid (Twain v1 v2 0 w.heap.size w3) := ⟨O1, O2, hs1.kept k3 (fun _ _ h => h), hs2, fun g h1 h2 => by have := hs1.lt g h1; have := ho2 g h2; omega⟩
  have L0 : Hid (Below w.heap.size w w3) := (kB.trans k3).below (Nat.le_refl _) (fun _ _ h => h)
  clear HM2 kB hb5 c0 c1 c2 hs1 hs2 ho2 k3
  go_wp2_with fail
  go_loopw [8, 11] (fun x y wr => ∃ i : Nat, i ≤ sn ∧ x = .bool true ∧ y = .int .i64 i ∧ Twain v1 v2 i w.heap.size wr ∧ Below w.heap.size w wr) (fun _ y _ => sn - (intOf y).toNat)
  case atStart => exact ⟨0, by omega, rfl, rfl, T0.out, L0.out⟩
  case round =>
    obtain ⟨i, hi, rfl, rfl, hT, hbel⟩ := hrel
    clear T0 L0
    by_cases hlt : i < sn
    · rcases HS.out with h0 | ⟨sb, off, rfl, hsb, hcs⟩
      · omega
      obtain ⟨r0, r1, r2, r3⟩ := hcs i hlt
      have c0 := (hbel.cell (p := ⟨sb, off + i * 4, none⟩) hsb).trans r0
      have c1 := (hbel.cell (p := ⟨sb, off + i * 4 + 1, none⟩) hsb).trans r1
      have c2 := (hbel.cell (p := ⟨sb, off + i * 4 + 2, none⟩) hsb).trans r2
      have c3 := (hbel.cell (p := ⟨sb, off + i * 4 + 3, none⟩) hsb).trans r3
      have hii : (i : Int) < sn := by omega
      have hszx := hbel.size
      have hsbx : sb < wr.heap.size := by omega
      have hroom : (i + 1) * 24 ≤ 140737488355328 := by have := HSN.out; omega
      have HR : Hid ((i + 1) * 24 ≤ 140737488355328) := hroom
      have HT : Hid (Twain v1 v2 i w.heap.size wr) := hT
      have HBE : Hid (Below w.heap.size w wr) := hbel
      have hsl1 : v1 = .pointer none ∨ ∃ p, v1 = .pointer (some ⟨p, 0, none⟩) := by
        obtain ⟨_, _, h1, _, _⟩ := hT
        rcases h1 with h | ⟨p, _, _, _, _, e, _⟩
        · exact .inl h.1
        · exact .inr ⟨p, e⟩
      have hsl2 : v2 = .pointer none ∨ ∃ p, v2 = .pointer (some ⟨p, 0, none⟩) := by
        obtain ⟨_, _, _, h1, _⟩ := hT
        rcases h1 with h | ⟨p, _, _, _, _, e, _⟩
        · exact .inl h.1
        · exact .inr ⟨p, e⟩
      clear hcs r0 r1 r2 r3 hroom hT hbel
      generalize K i = k at *
      generalize X i = x at *
      generalize Y i = y at *
      generalize Z i = z at *
      by_cases hpar : i % 2 = 1
      · have ep : (((i : Int) % 2) == 1) = true := by simp; omega
        have ep2 : ((i : Int).tmod 2 == 1) = true := by rw [Int.tmod_eq_emod_of_nonneg (by omega)]; exact ep
        rcases hsl2 with rfl | ⟨p, rfl⟩
        · go_wp2_with fail
          exact ⟨⟨i + 1, by omega, rfl, by go_num, HT.out.later, HBE.out⟩, by simp [intOf]; omega⟩
        · go_wp2_with fail
          refine (twain_step k x y z HR.out _ (LIB.out.below HBE.out) HT.out.swap).mono ?_
          rintro e w4 ⟨rfl, hT4, hb4⟩
          go_wp2_with fail
          exact ⟨⟨i + 1, by omega, rfl, by go_num, hT4.swap, HBE.out.trans hb4⟩, by simp [intOf]; omega⟩
      · have ep : (((i : Int) % 2) == 1) = false := by simp; omega
        have ep2 : ((i : Int).tmod 2 == 1) = false := by rw [Int.tmod_eq_emod_of_nonneg (by omega)]; exact ep
        rcases hsl1 with rfl | ⟨p, rfl⟩
        · go_wp2_with fail
          exact ⟨⟨i + 1, by omega, rfl, by go_num, HT.out.later, HBE.out⟩, by simp [intOf]; omega⟩
        · go_wp2_with fail
          refine (twain_step k x y z HR.out _ (LIB.out.below HBE.out) HT.out).mono ?_
          rintro e w4 ⟨rfl, hT4, hb4⟩
          go_wp2_with fail
          exact ⟨⟨i + 1, by omega, rfl, by go_num, hT4, HBE.out.trans hb4⟩, by simp [intOf]; omega⟩
    · have hge : decide ((i : Int) < (sn : Int)) = false := decide_eq_false (by omega)
      go_wp2_with fail
      go_ret
      exact ⟨rfl, hbel⟩

end Go.Proofs.YtpfahgogjeignaaDoor
