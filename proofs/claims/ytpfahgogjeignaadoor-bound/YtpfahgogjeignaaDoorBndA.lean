/-
  Bound: its walk.
-/
import Derived.Test.YtpfahgogjeignaaDoorKeepX
set_option linter.unusedVariables false
set_option linter.unusedSimpArgs false
namespace Go.Proofs.YtpfahgogjeignaaDoor
open Go.RowKit
attribute [local go_sem ↓] Go.wp_at_zero Go.wp_at_succ

theorem hid {p : Prop} (h : p) : Hid p := h

set_option maxRecDepth 100000 in
set_option maxHeartbeats 8000000 in
theorem bound_yes (le wi : Int) (a sa : Option Addr) (n cap sn scap : Nat) (R B K X Y Z : Nat → Int) (w : World) (hT : Ten w a n R B) (hn : n * 16 ≤ 140737488355328) (hsn : sn * 32 ≤ 140737488355328) (hS : Scr w sa sn K X Y Z) (hlib : Lib w) (ok : Good le wi n R B) :
    Calls Tryd.prog 5 #[.agg #[.int .i64 le, .int .i64 wi, .slice a n cap], .slice sa sn scap] w fun e w' => e = .returned (.bool true) ∧ Below w.heap.size w w' := by
  have hS1 : Same w (w.alloc (.cells #[.int .i64 le, .int .i64 wi, .slice a n cap] 34)) := Kept.alloc (Kept.refl _ _) _
  have hb1 : BAt (w.alloc (.cells #[.int .i64 le, .int .i64 wi, .slice a n cap] 34)) w.heap.size 34 #[.int .i64 le, .int .i64 wi, .slice a n cap] := BAt.made' _ _ rfl _ _
  have HO : Hid (Calls Tryd.prog 9 #[.agg #[.int .i64 le, .int .i64 wi, .slice a n cap]] (w.alloc (.cells #[.int .i64 le, .int .i64 wi, .slice a n cap] 34)) fun e w' => ∃ b, e = .returned (.tuple #[.pointer (some ⟨b, 0, none⟩), .bool true]) ∧ (w.alloc (.cells #[.int .i64 le, .int .i64 wi, .slice a n cap] 34)).heap.size ≤ b ∧ PAt w' b (PC.fresh le wi n R B n 2 (-1)) ∧ Same (w.alloc (.cells #[.int .i64 le, .int .i64 wi, .slice a n cap] 34)) w') := opened_yes le wi a n cap R B _ (hT.same hS1) hn ok
  have OK : Hid (Good le wi n R B) := ok
  have n4 := ok.ten.2.1
  have n0 := ok.ten.1
  have n4i : (n : Int) ≤ 4 := by omega
  have hmk := fun w => make_pas n n4 w
  have sni : (sn : Int) < 9000000000000 := by omega
  have HS : Hid (Scr w sa sn K X Y Z) := hS
  have LIB : Hid (Lib w) := hlib
  clear hlib
  have HT0 : Hid (Ten w a n R B) := hT
  clear hT hn ok hsn hS
  go_enter Tryd.func5, Tryd.ntmps5
  go_wp2_with fail
  refine HO.out.mono ?_
  rintro e w2 ⟨b0, rfl, hbl, hp2, hk2⟩
  have hB2 := (hS1.trans hk2).below (Nat.le_refl _) (fun _ _ h => h)
  have hs2 := hb1.kept hk2 (fun h => h)
  have hbl2 : w.heap.size < b0 := by
    have : w.heap.size + 1 ≤ b0 := by simpa using hbl
    omega
  have hbw := hp2.lt
  have hsl := hs2.lt
  have q2 : w2.cell? ⟨w.heap.size, 2, none⟩ = some (.slice a n cap) := hs2.cell 2
  clear hk2 hS1 hbl HO hb1
  go_wp2_with fail
  have hcl : ClockAt ((w2.alloc (.cells #[.int .i64 0] 41)).alloc (.cells (fArr (n * 2) fun _ => .slice none 0 0) 53)) w2.heap.size 0 := BAt.alloc (BAt.made' _ _ rfl _ _) _
  have hrw := rows_made (w2.alloc (.cells #[.int .i64 0] 41)) (n * 2) (fun _ _ => 0)
  have h0 : BL w ((w2.alloc (.cells #[.int .i64 0] 41)).alloc (.cells (fArr (n * 2) fun _ => .slice none 0 0) 53)) le wi a n cap R B w2.heap.size (w2.heap.size + 1) (w2.heap.size + 2) 0 b0 (PC.fresh le wi n R B n 2 (-1)) (fun _ => .slice none 0 0) (fun _ => 0) (fun _ _ => 0) := by
    simp only [World.size_alloc] at hrw
    exact ⟨PAt.alloc (PAt.alloc hp2 _) _, sane_fresh OK.out, ep_fresh le wi n R B, rfl, hcl, (hs2.alloc _).alloc _, hrw, fun k hk => ⟨rfl, Nat.le_refl _⟩, fun k hk => ⟨_, _, note_fresh OK.out k hk _ _⟩, (hB2.alloc (by omega) _).alloc (by simp; omega) _, hbl2, by omega, by omega, by omega, by omega, by omega, by omega, fun r g _ h => (by cases h), fit_fresh OK.out⟩
  have H0 : Hid (BL w ((w2.alloc (.cells #[.int .i64 0] 41)).alloc (.cells (fArr (n * 2) fun _ => .slice none 0 0) 53)) le wi a n cap R B w2.heap.size (w2.heap.size + 1) (w2.heap.size + 2) 0 b0 (PC.fresh le wi n R B n 2 (-1)) (fun _ => .slice none 0 0) (fun _ => 0) (fun _ _ => 0)) := h0
  clear h0 hrw hcl hp2 hs2 hB2 hmk q2
  generalize (w2.alloc (.cells #[.int .i64 0] 41)).alloc (.cells (fArr (n * 2) fun _ => .slice none 0 0) 53) = W3 at *
  generalize w2.heap.size = t at *
  go_loopw [5, 6, 9] (fun v x y wr => ∃ (i b : Nat) (o : Bool) (s : PC) (V : Nat → Value) (Ln : Nat → Nat) (F : Nat → Nat → Int), i ≤ sn ∧ v = .pointer (some ⟨b, 0, none⟩) ∧ x = .bool o ∧ y = .int .i64 i ∧ BL w wr le wi a n cap R B t (t + 1) (t + 2) i b s V Ln F) (fun _ _ y _ => sn - (intOf y).toNat)
  case atStart => exact ⟨0, b0, true, _, _, _, _, by omega, rfl, rfl, rfl, H0.out⟩
  case round =>
    obtain ⟨i, b, o, s, V, Ln, F, hi, rfl, rfl, rfl, hL⟩ := hrel
    clear H0
    have hbel := hL.below
    have hszx := hbel.size
    have hbl := hL.p.lt
    have hcl := BAt.lt hL.clock
    have hstl := hL.set.lt
    have hsb := hL.sb
    have hstt := hL.st
    have hbt := hL.bt
    have hbg := hL.bg
    have hgl := hL.rows.blk.lt
    have hi9 : (i : Int) < 9000000000000000000 := by omega
    by_cases hlt : i < sn
    · rcases HS.out with h0 | ⟨sb, off, rfl, hsb', hcs⟩
      · omega
      obtain ⟨r0, r1, r2, r3⟩ := hcs i hlt
      have c0 := (hbel.cell (p := ⟨sb, off + i * 4, none⟩) hsb').trans r0
      have c1 := (hbel.cell (p := ⟨sb, off + i * 4 + 1, none⟩) hsb').trans r1
      have c2 := (hbel.cell (p := ⟨sb, off + i * 4 + 2, none⟩) hsb').trans r2
      have c3 := (hbel.cell (p := ⟨sb, off + i * 4 + 3, none⟩) hsb').trans r3
      have hii : (i : Int) < sn := by omega
      have hsbx : sb < wr.heap.size := by omega
      clear hcs r0 r1 r2 r3
      generalize K i = k at *
      generalize X i = x at *
      generalize Y i = y at *
      generalize Z i = z at *
      have hpa := PAt.alloc hL.p (.cells #[.int .i64 k, .int .i64 x, .int .i64 y, .int .i64 z] 43)
      have hca := BAt.alloc hL.clock (.cells #[.int .i64 k, .int .i64 x, .int .i64 y, .int .i64 z] 43)
      have hka : Same wr (wr.alloc (.cells #[.int .i64 k, .int .i64 x, .int .i64 y, .int .i64 z] 43)) := Kept.alloc (Kept.refl _ _) _
      have hoa := BAt.made' wr wr.heap.size rfl 43 #[.int .i64 k, .int .i64 x, .int .i64 y, .int .i64 z]
      have HL : Hid (BL w wr le wi a n cap R B t (t + 1) (t + 2) i b s V Ln F) := hL
      by_cases h13 : k = 13
      · subst h13
        clear hL
        go_wp2_with fail
        refine (again_any b s i HL.out.fit hi9 _ (LIB.out.below (HL.out.below.alloc hszx _)) hpa).mono ?_
        rintro e w4 ⟨b', rfl, hb', hp4, hk4⟩
        have hb4 : wr.heap.size + 1 ≤ b' := by simpa using hb'
        have hkk := hka.trans hk4
        have hL4 : BL w w4 le wi a n cap R B t (t + 1) (t + 2) (i + 1) b' s V Ln F := by
          have h := HL.out
          exact ⟨hp4, h.sane, ep_later h.ep, h.cnt, BAt.kept h.clock hkk (fun h => h), h.set.kept hkk (fun h => h), h.rows.kept hkk (fun h => h) (fun _ _ _ _ h => h), fun k hk => ⟨(h.len k hk).1, Nat.le_succ_of_le (h.len k hk).2⟩, h.note, h.below.trans (hkk.below hszx (fun _ _ h => h)), by omega, h.st, h.sg, by omega, by omega, h.tg, h.tb, fun r g hr hg e => by have := ((h.rows.row r hr).lt g hg).2; omega, h.fit.later⟩
        go_wp2_with fail
        exact ⟨⟨i + 1, b', o, s, V, Ln, F, by omega, rfl, rfl, by go_num, hL4⟩, by simp [intOf]; omega⟩
      · have e13 : (k == 13) = false := by simp [h13]
        have n0' := hL.sane.ok.now0
        have n1' := hL.sane.ok.now1
        go_wp2_with fail
        refine (called_any b s HL.out.sane.ok k x y z _ hpa).mono ?_
        rintro e w4 ⟨rfl, hp4, hk4⟩
        clear hL
        have hB := call_now s k x y z
        have hC : k = 1 ∧ (s.call k x y z).1.e = 0 → 0 ≤ x ∧ x ≤ 1000000000000 - s.now ∧ (s.call k x y z).2.now = s.now + x := by
          rintro ⟨rfl, he⟩
          exact call_pass s x y z he
        have hN : ∀ w', Kept (fun q => q = b ∨ q = t) wr w' → PAt w' b (s.call k x y z).2 → ClockAt w' t (s.call k x y z).2.now → ¬ (k = 6 ∧ (s.call k x y z).1.e = 0 ∧ (s.call k x y z).1.a = 5) → BL w w' le wi a n cap R B t (t + 1) (t + 2) (i + 1) b (s.call k x y z).2 V Ln F := fun w' kk p' c' no => HL.out.next (by omega) hi9 k x y z kk p' c' no
        have hPsh : k = 6 ∧ (s.call k x y z).1.e = 0 → 0 ≤ y ∧ y < s.count ∧ 1 ≤ z ∧ z ≤ 2000000 := by
          rintro ⟨rfl, he⟩
          exact call_admit s x y z he
        have HCALL : ∃ cl, cl = s.call k x y z := ⟨_, rfl⟩
        obtain ⟨cl, hcl'⟩ := HCALL
        rw [← hcl'] at hp4 hB hC hN hPsh ⊢
        have HCL : Hid (cl = s.call k x y z) := hcl'
        clear hcl'
        obtain ⟨⟨xa, xb, xc, xd, xe⟩, s4⟩ := cl
        dsimp only at hB hC hN hPsh hp4
        simp only [SaidR.v]
        have hc4 := BAt.kept hca hk4 (by omega)
        have ho4 := hoa.kept hk4 (by omega)
        have hk4' := (hka.mono (fun q (e : False) => (e.elim : q = b ∨ q = t))).trans (hk4.mono (fun q e => (Or.inl e : q = b ∨ q = t)))
        have B5 := BAt.made' w4 w4.heap.size rfl 47 #[.int .i64 xa, .int .i64 xb, .int .i64 xc, .int .i64 xd, .int .i64 xe]
        have hc5 := BAt.alloc hc4 (.cells #[.int .i64 xa, .int .i64 xb, .int .i64 xc, .int .i64 xd, .int .i64 xe] 47)
        have ho5 := BAt.alloc ho4 (.cells #[.int .i64 xa, .int .i64 xb, .int .i64 xc, .int .i64 xd, .int .i64 xe] 47)
        have hp5 := PAt.alloc hp4 (.cells #[.int .i64 xa, .int .i64 xb, .int .i64 xc, .int .i64 xd, .int .i64 xe] 47)
        have hk5 := Kept.alloc hk4' (.cells #[.int .i64 xa, .int .i64 xb, .int .i64 xc, .int .i64 xd, .int .i64 xe] 47)
        have l4 := hk4.size
        have l4' : wr.heap.size + 1 ≤ w4.heap.size := by simpa using l4
        have HB : Hid (¬ (k = 1 ∧ xe = 0) → s4.now = s.now) := hB
        have HC : Hid (k = 1 ∧ xe = 0 → 0 ≤ x ∧ x ≤ 1000000000000 - s.now ∧ s4.now = s.now + x) := hC
        have HN : Hid (∀ w', Kept (fun q => q = b ∨ q = t) wr w' → PAt w' b s4 → ClockAt w' t s4.now → ¬ (k = 6 ∧ xe = 0 ∧ xa = 5) → BL w w' le wi a n cap R B t (t + 1) (t + 2) (i + 1) b s4 V Ln F) := hN
        have HP : Hid (k = 6 ∧ xe = 0 → 0 ≤ y ∧ y < s.count ∧ 1 ≤ z ∧ z ≤ 2000000) := hPsh
        have y0 : w4.cell? ⟨wr.heap.size, 0, none⟩ = some (.int .i64 k) := ho4.cell 0
        have y1 : w4.cell? ⟨wr.heap.size, 1, none⟩ = some (.int .i64 x) := ho4.cell 1
        have y2 : w4.cell? ⟨wr.heap.size, 2, none⟩ = some (.int .i64 y) := ho4.cell 2
        have y3 : w4.cell? ⟨wr.heap.size, 3, none⟩ = some (.int .i64 z) := ho4.cell 3
        have y4 : wr.heap.size < w4.heap.size := by omega
        clear hB hC hN hPsh hc4 ho4 hk4' hk4 hpa hca hka hoa hp4 c0 c1 c2 c3 l4
        go_wp2_with fail
        generalize w4.alloc (.cells #[.int .i64 xa, .int .i64 xb, .int .i64 xc, .int .i64 xd, .int .i64 xe] 47) = W5 at *
        generalize w4.heap.size = g5 at *
        generalize hg4 : wr.heap.size = g4 at *
        clear y0 y1 y2 y3
        by_cases h1 : k = 1 ∧ xe = 0
        · obtain ⟨x0, x1, en⟩ := HC.out h1
          have hN := fun w' q1 q2 q3 => HN.out w' q1 q2 q3 (fun e => by omega)
          obtain ⟨rfl, rfl⟩ := h1
          refine (told_pass t x y z s.now x0 x1 n0' n1' _ hc5).mono ?_
          rintro e w6 ⟨rfl, hc6, hk6⟩
          have ho6 := ho5.kept hk6 (by omega)
          have hp6 := PAt.kept hp5 hk6 (by omega)
          have hk6' := hk5.trans (hk6.mono (fun q e => (Or.inr e : q = b ∨ q = t)))
          have z0 : w6.cell? ⟨g4, 0, none⟩ = some (.int .i64 1) := ho6.cell 0
          rw [← en] at hc6
          have hL6 := hN w6 hk6' hp6 hc6
          clear HN HB HC HP hN HL
          go_wp2_with fail
          exact ⟨⟨i + 1, b, true, s4, V, Ln, F, by omega, rfl, rfl, by go_num, hL6⟩, by simp [intOf]; omega⟩
        · have en := HB.out h1
          refine (told_not t k x y z xe (by omega) _).mono ?_
          rintro e w6 ⟨rfl, hk6⟩
          have ho6 := ho5.kept hk6 (fun h => h)
          have hp6 := hp5.same hk6
          have hc6 := BAt.kept hc5 hk6 (fun h => h)
          have B6 := B5.kept hk6 (fun h => h)
          have hk6' := hk5.trans (hk6.mono (fun q (e : False) => (e.elim : q = b ∨ q = t)))
          have z0 : w6.cell? ⟨g4, 0, none⟩ = some (.int .i64 k) := ho6.cell 0
          have z2 : w6.cell? ⟨g4, 2, none⟩ = some (.int .i64 y) := ho6.cell 2
          have z3 : w6.cell? ⟨g4, 3, none⟩ = some (.int .i64 z) := ho6.cell 3
          have z5 : w6.cell? ⟨g5, 4, none⟩ = some (.int .i64 xe) := B6.cell 4
          have z4 : w6.cell? ⟨g5, 0, none⟩ = some (.int .i64 xa) := B6.cell 0
          have hc6s := hc6
          rw [← en] at hc6
          clear HB HC hp5 hc5 ho5 B5 hk5 hk6 h1
          by_cases hadm : k = 6 ∧ xe = 0 ∧ xa = 5
          · obtain ⟨rfl, rfl, rfl⟩ := hadm
            obtain ⟨yy0, yy1, zz0, zz1⟩ := HP.out ⟨rfl, rfl⟩
            obtain ⟨k0, rfl⟩ := Int.eq_ofNat_of_zero_le yy0
            have hcn := HL.out.cnt
            have hk0 : k0 < n := by omega
            have hk0i : (k0 : Int) < n := by omega
            have hr6 : Rows2 w6 (t + 2) (t + 1) (n * 2) V Ln F := by
              have h := HL.out
              refine h.rows.kept hk6' (by rintro (e | e) <;> omega) (fun r g hr hg => ?_)
              rintro (e | e)
              · exact h.nb r g hr hg e
              · have := ((h.rows.row r hr).lt g hg).1
                omega
            have hs6 := HL.out.set.kept hk6' (by rintro (e | e) <;> omega)
            have hbel6 := hbel.trans (hk6'.below (by omega) (fun q hq e => by rcases e with e | e <;> omega))
            have z6 : w6.cell? ⟨t, 0, none⟩ = some (.int .i64 s.now) := BAt.cell hc6s 0
            have z7 : w6.cell? ⟨w.heap.size, 2, none⟩ = some (.slice a n cap) := hs6.cell 2
            have hlen := HL.out.len k0 hk0
            have hnb := HL.out.nb
            have hw6 : g4 ≤ w6.heap.size := by have := ho6.lt; omega
            have HH : Hid (5 = 5) := rfl
            have ra := hr6.row (k0 * 2) (by omega)
            obtain ⟨av, cv, hva⟩ : ∃ av cv, V (k0 * 2) = .slice av (Ln (k0 * 2)) cv := by
              rcases ra.2 with ⟨hv, hz⟩ | ⟨g, cap, cur, hv, _⟩
              · exact ⟨none, 0, by rw [hv, hz]⟩
              · exact ⟨_, _, hv⟩
            have sl0 : w6.cell? ⟨t + 1, k0 * 2, none⟩ = some (.slice av (Ln (k0 * 2)) cv) := by rw [← hva]; exact hr6.slot (k0 * 2) (by omega)
            have fr6 := hr6.blk.free
            have bl6 := hr6.blk.lt
            have lo6 := ra.lt
            rw [hva] at ra lo6
            obtain ⟨i3, hi3, hz3, hs3, hb3⟩ := info_of info_int
            have HR6 : Hid (Rows2 w6 (t + 2) (t + 1) (n * 2) V Ln F) := hr6
            have HVA : Hid (V (k0 * 2) = .slice av (Ln (k0 * 2)) cv) := hva
            have agy : (Value.slice av (Ln (k0 * 2)) cv).ownBlock ≠ some (t + 1) := by
              intro e; have := (lo6 _ e).1; omega
            have agt : (Value.slice av (Ln (k0 * 2)) cv).ownBlock ≠ some t := by
              intro e; have := (lo6 _ e).1; omega
            have hfa : ∀ o x, (w6.alloc o).frozen? ⟨t + 1, x, none⟩ = false := fun o x => (hr6.blk.alloc o).free x
            have lb : Ln (k0 * 2) ≤ i := hlen.2
            have hlw6 : t + 2 ≤ w6.heap.size := by omega
            have t1 : ¬ (k0 : Int) < 0 := by omega
            have t2 : ¬ (n : Int) ≤ (k0 : Int) := by omega
            have t3 : ¬ z < 1 := by omega
            have t5 : ¬ n ≤ k0 := by omega
            have t6 : decide (n ≤ k0) = false := decide_eq_false (by omega)
            have t7 : decide (z < 1) = false := decide_eq_false (by omega)
            have t8 : decide (2000000 < z) = false := decide_eq_false (by omega)
            have t9 : decide ((n : Int) ≤ (k0 : Int)) = false := decide_eq_false (by omega)
            have t4 : ¬ 2000000 < z := by omega
            have HNB : Hid (∀ r g, r < n * 2 → (V r).ownBlock = some g → g ≠ b) := hnb
            have ZZ : Hid (1 ≤ z ∧ z ≤ 2000000) := ⟨zz0, zz1⟩
            clear hr6 hva HN HP hi9 yy0 yy1 hnb lo6 HH zz0 zz1
            generalize hLn : Ln (k0 * 2) = L at *
            go_upto_region 19 with fail
            clear t6 t7 t8 t9 z0 z5 z4 h13 e13
            have H_hi3 := hid hi3
            have H_hz3 := hid hz3
            have H_hs3 := hid hs3
            have H_hb3 := hid hb3
            have H_hfa := hid hfa
            have H_fr6 := hid fr6
            have H_sl0 := hid sl0
            have H_ra := hid ra
            have H_agy := hid agy
            have H_agt := hid agt
            have H_hlen := hid hlen
            have H_hLn := hid hLn
            have H_hcn := hid hcn
            have H_hbel := hid hbel
            have H_hbel6 := hid hbel6
            have H_hs6 := hid hs6
            have H_ho6 := hid ho6
            have H_B6 := hid B6
            have H_hc6 := hid hc6
            have H_hc6s := hid hc6s
            have H_hk6p := hid hk6'
            have H_hp6 := hid hp6
            have H_hbt := hid hbt
            have H_hbg := hid hbg
            have H_z6 := hid z6
            have H_z7 := hid z7
            have H_bl6 := hid bl6
            have H_lb := hid lb
            have H_hw6 := hid hw6
            have H_hlw6 := hid hlw6
            have hb4 : (decide ((k0 : Int) < 0) || decide (z < 1) || decide (2000000 < z)) = false := by
              simp only [Bool.or_eq_false_iff, decide_eq_false_iff_not]
              omega
            have HB4 := hid hb4
            clear hb4 hi3 hz3 hs3 hb3 hfa fr6 sl0 ra agy agt hlen hLn hcn hbel hbel6 hs6 ho6 B6 hc6 hc6s hk6' hp6 hbt hbg z6 z7 bl6 lb hw6 hlw6

            repeat (go_not_at_if 86; first | go_values | go_skip | go_guarded | go_step)
            refine wp_cond_split rfl (fun h => ?_) (fun h => ?_)
            · exfalso
              rw [HB4.out] at h
              cases h
            clear h
            clear HB4
            go_upto_region 22 with fail
            go_cut [12] from 27 to 124 (fun p wx => p = .pointer (some ⟨t + 1, k0 * 2, none⟩) ∧ ∃ V1, Rows2 wx (t + 2) (t + 1) (n * 2) V1 (upd Ln (k0 * 2) (L + 1)) (upd F (k0 * 2) (upd (F (k0 * 2)) L s.now)) ∧ Kept (RowBlk V (n * 2) (t + 1)) w6 wx ∧ V1 (k0 * 2 + 1) = V (k0 * 2 + 1) ∧ ∀ r g, r < n * 2 → (V1 r).ownBlock = some g → (V r).ownBlock = some g ∨ w6.heap.size ≤ g)
            case first =>
              have hi3 := H_hi3.out
              have hz3 := H_hz3.out
              have hs3 := H_hs3.out
              have hb3 := H_hb3.out
              have sl0 := H_sl0.out
              have ra := H_ra.out
              have agy := H_agy.out
              have agt := H_agt.out
              have z6 := H_z6.out
              have bl6 := H_bl6.out
              have lb := H_lb.out
              have hlw6 := H_hlw6.out
              have hfa := H_hfa.out
              have fr6 := H_fr6.out
              go_region_law ((refine step_append_lies _ (by rfl) _ _ _ (by rfl) (t + 2) 3 i3 _ 1 8 Tryd.underlying51 hi3 hz3 hs3 hb3 rfl (by omega) (.slice av L cv) L (intsTo (F (k0 * 2)) L) (by rfl) ((World.ownsRow.alloc ra _).drew) ⟨w6.heap.size, 0, none⟩ 1 1 [.int .i64 s.now] (by rfl) (by rfl) (World.news_of_block (cs := #[.int .i64 s.now]) (t := 3) (fr := (0, 0)) (heap_alloc_new w6 _)) (by simp [Value.oneCell']) (by omega) (by unfold maxLen; omega) (by omega) (by simp; omega) (w6.heap.size + 1) (by simp) ?_; intro gg cap2 w7 hown1 hgrow hat hlt5; have q1 := hgrow.cell_far ⟨t + 1, k0 * 2, none⟩ (by simp; omega) (Ne.symm agy); have q2 := hgrow.frozen_far ⟨t + 1, k0 * 2, none⟩ (by simp; omega) (Ne.symm agy)))
              all_goals
                go_wp2_with fail
                go_meet
                have P := Rows2.push HR6.out (k0 * 2) (by omega) (((Kept.refl _ w6).alloc (.cells #[.int .i64 s.now] 3)).drew) (by rw [HVA.out]; exact hgrow) gg cap2 s.now (by rw [H_hLn.out]; exact hown1) (by rw [HVA.out]; exact hat.imp_right (fun e => by rw [e]; simp))
                rw [H_hLn.out] at P
                refine ⟨rfl, _, P.1, P.2.mono (fun q e => ?_), upd_other _ _ (by omega), fun r g hr hg => ?_⟩
                · rcases e with e | e
                  · exact .inl ⟨k0 * 2, by omega, e⟩
                  · exact .inr e
                · by_cases er : r = k0 * 2
                  · rw [er, upd_same] at hg
                    have hgg : gg = g := by simpa [Value.ownBlock] using hg
                    rw [er, HVA.out]
                    rcases hat with e | e
                    · exact .inl (by rw [← hgg]; exact e)
                    · exact .inr (by omega)
                  · rw [upd_other _ _ er] at hg
                    exact .inl hg
            case rest =>
              obtain ⟨rfl, V1, hr1, hkS, hv1, hwn1⟩ := hcut
              have hlen := H_hlen.out
              have rb : wc.ownsRow (t + 2) 3 1 (V (k0 * 2 + 1)) L (intsTo (F (k0 * 2 + 1)) L) := by
                have := hr1.row (k0 * 2 + 1) (by omega)
                rw [hv1, upd_other _ _ (by omega), upd_other _ _ (by omega), hlen.1] at this
                exact this
              obtain ⟨av2, cv2, hvb⟩ : ∃ av cv, V (k0 * 2 + 1) = .slice av L cv := by
                rcases rb.2 with ⟨hv, hz⟩ | ⟨g, cap, cur, hv, _⟩
                · exact ⟨none, 0, by rw [hv, hz]⟩
                · exact ⟨_, _, hv⟩
              have HVB := hid hvb
              have sl1 : wc.cell? ⟨t + 1, k0 * 2 + 1, none⟩ = some (.slice av2 L cv2) := by rw [← hvb, ← hv1]; exact hr1.slot (k0 * 2 + 1) (by omega)
              have lo7 := rb.lt
              rw [hvb] at rb lo7
              have ng4 : ¬ RowBlk V (n * 2) (t + 1) g4 := by
                rintro (⟨r, hr, e⟩ | e)
                · have := ((HL.out.rows.row r hr).lt g4 e).2
                  omega
                · omega
              have zc2 : wc.cell? ⟨g4, 2, none⟩ = some (.int .i64 k0) := (H_ho6.out.kept hkS ng4).cell 2
              have zc3 : wc.cell? ⟨g4, 3, none⟩ = some (.int .i64 z) := (H_ho6.out.kept hkS ng4).cell 3
              have ngs : ¬ RowBlk V (n * 2) (t + 1) w.heap.size := by
                rintro (⟨r, hr, e⟩ | e)
                · have := ((HL.out.rows.row r hr).lt _ e).1
                  omega
                · omega
              have frc := hr1.blk.free
              have blc := hr1.blk.lt
              have hfc : ∀ o x, (wc.alloc o).frozen? ⟨t + 1, x, none⟩ = false := fun o x => (hr1.blk.alloc o).free x
              have bgy : (Value.slice av2 L cv2).ownBlock ≠ some (t + 1) := by
                intro e; have := (lo7 _ e).1; omega
              have bgt : (Value.slice av2 L cv2).ownBlock ≠ some g4 := by
                intro e
                exact ng4 (.inl ⟨k0 * 2 + 1, by omega, by rw [hvb]; exact e⟩)
              have hlc : t + 2 ≤ wc.heap.size := Nat.le_trans H_hlw6.out hkS.size
              have szc := hkS.size
              have g4c : g4 < wc.heap.size := by have := H_ho6.out.lt; omega
              have HR1 := hid hr1
              have HKS := hid hkS
              have HV1 := hid hv1
              have HW1 := hid hwn1
              have H_zc2 := hid zc2
              clear hr1 hkS hv1 hwn1 hvb hlen lo7 zc2 ng4
              go_upto_region 23 with fail
              go_cut [12] from 27 to 124 (fun p wx => p = .pointer (some ⟨t + 1, k0 * 2, none⟩) ∧ ∃ V2, Rows2 wx (t + 2) (t + 1) (n * 2) V2 (upd (upd Ln (k0 * 2) (L + 1)) (k0 * 2 + 1) (L + 1)) (upd (upd F (k0 * 2) (upd (F (k0 * 2)) L s.now)) (k0 * 2 + 1) (upd (F (k0 * 2 + 1)) L z)) ∧ Kept (RowBlk V (n * 2) (t + 1)) w6 wx ∧ ∀ r g, r < n * 2 → (V2 r).ownBlock = some g → (V r).ownBlock = some g ∨ w6.heap.size ≤ g)
              case first =>
                have hi3 := H_hi3.out
                have hz3 := H_hz3.out
                have hs3 := H_hs3.out
                have hb3 := H_hb3.out
                have lb := H_lb.out
                go_region_law ((refine step_append_lies _ (by rfl) _ _ _ (by rfl) (t + 2) 3 i3 _ 1 8 Tryd.underlying51 hi3 hz3 hs3 hb3 rfl (by omega) (.slice av2 L cv2) L (intsTo (F (k0 * 2 + 1)) L) (by rfl) ((World.ownsRow.alloc rb _).drew) ⟨wc.heap.size, 0, none⟩ 1 1 [.int .i64 z] (by rfl) (by rfl) (World.news_of_block (cs := #[.int .i64 z]) (t := 3) (fr := (0, 0)) (heap_alloc_new wc _)) (by simp [Value.oneCell']) (by omega) (by unfold maxLen; omega) (by omega) (by simp; omega) (wc.heap.size + 1) (by simp) ?_; intro gg cap2 w7 hown1 hgrow hat hlt5; have q1 := hgrow.cell_far ⟨t + 1, k0 * 2 + 1, none⟩ (by simp; omega) (Ne.symm bgy); have q2 := hgrow.frozen_far ⟨t + 1, k0 * 2 + 1, none⟩ (by simp; omega) (Ne.symm bgy)))
                all_goals
                  go_wp2_with fail
                  go_meet
                  have lx : upd Ln (k0 * 2) (L + 1) (k0 * 2 + 1) = L := by rw [upd_other _ _ (by omega), H_hlen.out.1]
                  have fx : upd F (k0 * 2) (upd (F (k0 * 2)) L s.now) (k0 * 2 + 1) = F (k0 * 2 + 1) := upd_other _ _ (by omega)
                  have vx : V1 (k0 * 2 + 1) = .slice av2 L cv2 := HV1.out.trans HVB.out
                  have P := Rows2.push HR1.out (k0 * 2 + 1) (by omega) (((Kept.refl _ wc).alloc (.cells #[.int .i64 z] 3)).drew) (by rw [vx]; exact hgrow) gg cap2 z (by rw [lx, fx]; exact hown1) (by rw [vx]; exact hat.imp_right (fun e => by rw [e]; simp))
                  rw [lx, fx] at P
                  refine ⟨rfl, _, P.1, HKS.out.trans (P.2.mono (fun q e => ?_)), fun r g hr hg => ?_⟩
                  · rcases e with e | e
                    · rw [HV1.out] at e
                      exact .inl ⟨k0 * 2 + 1, by omega, e⟩
                    · exact .inr e
                  · by_cases er : r = k0 * 2 + 1
                    · rw [er, upd_same] at hg
                      have hgg : gg = g := by simpa [Value.ownBlock] using hg
                      rw [er, HVB.out]
                      rcases hat with e | e
                      · exact .inl (by rw [← hgg]; exact e)
                      · exact .inr (by omega)
                    · rw [upd_other _ _ er] at hg
                      exact HW1.out r g hr hg
              case rest =>
                obtain ⟨rfl, V2, hr2, hkS2, hwn2⟩ := hcut
                have eL := H_hLn.out
                have eL2 := H_hlen.out.1
                have hcall := HCL.out
                have he : (s.call 6 x (k0 : Int) z).1.e = 0 := by rw [← hcall]
                have ha : (s.call 6 x (k0 : Int) z).1.a = 5 := by rw [← hcall]
                have hs4 : (s.call 6 x (k0 : Int) z).2 = s4 := by rw [← hcall]
                have hp6l := H_hp6.out.lt
                have hL2 : BL w wc le wi a n cap R B t (t + 1) (t + 2) (i + 1) b s4 V2 (upd (upd Ln (k0 * 2) (L + 1)) (k0 * 2 + 1) (L + 1)) (upd (upd F (k0 * 2) (upd (F (k0 * 2)) L s.now)) (k0 * 2 + 1) (upd (F (k0 * 2 + 1)) L z)) := by
                  have := HL.out.pushed (wx := wc) (V' := V2) (by omega) (by omega) x z k0 hk0 he ha (by rw [hs4]; exact H_hp6.out) (by rw [hs4]; exact H_hc6.out) H_hk6p.out hkS2 (by rw [eL, eL2]; exact hr2) (fun r g hr hg => by
                    rcases hwn2 r g hr hg with e | e
                    · exact HNB.out r g hr e
                    · omega)
                  rw [hs4, eL, eL2] at this
                  exact this
                have ln2 : upd (upd Ln (k0 * 2) (L + 1)) (k0 * 2 + 1) (L + 1) (k0 * 2) = L + 1 := by rw [upd_other _ _ (by omega), upd_same]
                have WI := within_of hL2 OK.out k0 hk0 (by rw [ln2]; omega) (by
                  rw [ln2, upd_other _ _ (by omega), upd_same, Nat.add_sub_cancel, upd_same]
                  exact en.symm) (by omega)
                have HWI := hid WI
                have HL2 := hid hL2
                have ng4 : ¬ RowBlk V (n * 2) (t + 1) g4 := by
                  rintro (⟨r, hr, e⟩ | e)
                  · have := ((HL.out.rows.row r hr).lt g4 e).2
                    omega
                  · omega
                have y2 : wc.cell? ⟨g4, 2, none⟩ = some (.int .i64 k0) := (H_ho6.out.kept hkS2 ng4).cell 2
                have y7 : wc.cell? ⟨w.heap.size, 2, none⟩ = some (.slice a n cap) := hL2.set.cell 2
                have hT9 := HT0.out
                have hbl9 := hL2.below
                rcases hT9 with h0 | ⟨tb, toff, rfl, htb, hR, hB⟩
                · omega
                have y8 := (hbl9.cell (p := ⟨tb, toff + k0 * 2, none⟩) htb).trans (hR k0 hk0)
                have y9 := (hbl9.cell (p := ⟨tb, toff + k0 * 2 + 1, none⟩) htb).trans (hB k0 hk0)
                have hwl9 := hbl9.size
                clear WI hL2 hR hB hbl9 hkS2 hwn2 hr2 hcall he ha hs4 eL eL2 ln2 ng4 en
                generalize R k0 = Rk at *
                generalize B k0 = Bk at *
                go_wp2_with fail
                refine HWI.out.mono ?_
                rintro e w9 ⟨rfl, hk9⟩
                go_wp2_with fail
                exact ⟨⟨i + 1, b, true, s4, V2, _, _, by omega, rfl, rfl, by go_num, HL2.out.same hk9⟩, by simp [intOf]; omega⟩
          · have hL6 := HN.out w6 hk6' hp6 hc6 hadm
            clear HN HP HL
            by_cases h6 : k = 6
            · have e6 : (k != 6) = false := by simp [h6]
              by_cases he : xe = 0
              · have ee : (xe != 0) = false := by simp [he]
                have ea : (xa != 5) = true := by simp; omega
                clear h6 he hadm
                go_wp2_with fail
                exact ⟨⟨i + 1, b, true, s4, V, Ln, F, by omega, rfl, rfl, by go_num, hL6⟩, by simp [intOf]; omega⟩
              · have ee : (xe != 0) = true := by simp [he]
                clear h6 he hadm
                go_wp2_with fail
                exact ⟨⟨i + 1, b, true, s4, V, Ln, F, by omega, rfl, rfl, by go_num, hL6⟩, by simp [intOf]; omega⟩
            · have e6 : (k != 6) = true := by simp [h6]
              clear h6 hadm
              go_wp2_with fail
              exact ⟨⟨i + 1, b, true, s4, V, Ln, F, by omega, rfl, rfl, by go_num, hL6⟩, by simp [intOf]; omega⟩
    · have hge : decide ((i : Int) < (sn : Int)) = false := decide_eq_false (by omega)
      go_wp2_with fail
      go_ret
      exact ⟨rfl, hbel⟩

theorem bound_walk (le wi : Int) (a sa : Option Addr) (n cap sn scap : Nat) (R B K X Y Z : Nat → Int) (w : World) (hT : Ten w a n R B) (hn : n * 16 ≤ 140737488355328) (hsn : sn * 32 ≤ 140737488355328) (hS : Scr w sa sn K X Y Z) (hlib : Lib w) :
    Calls Tryd.prog 5 #[.agg #[.int .i64 le, .int .i64 wi, .slice a n cap], .slice sa sn scap] w fun e w' => e = .returned (.bool true) ∧ Below w.heap.size w w' := by
  rcases Classical.em (Good le wi n R B) with g | no
  · exact bound_yes le wi a sa n cap sn scap R B K X Y Z w hT hn hsn hS hlib g
  · exact bound_no le wi a sa n cap sn scap R B w hT hn no

end Go.Proofs.YtpfahgogjeignaaDoor
