/-
  A cluster is written down; a reader: digits, a number, a flag.
-/
import Derived.Test.YtpfahgogjeignabDoorFit
import Derived.Test.YtpfahgogjeignabDoorNum
import Derived.Lib.Strings
set_option linter.unusedVariables false
set_option linter.unusedSimpArgs false
namespace Go.Proofs.YtpfahgogjeignabDoor
open Go.RowKit
attribute [local go_sem ↓] Go.wp_at_zero Go.wp_at_succ
attribute [local go_sem] pcg0 pcg1 pcg2 pcg3 pcg4 pcg5 pcg6 pcg7 pcg8 pcg9 pcg10 pcg11 pcg12 pcg13 pcg14 pcg15 pcg16 pcg17 pcg18 pcg19 pcg20 pcg21 pcg22 pcg23 pcg24 pcg25 pcg26 pcg27 pcg28 pcg29 pcg30 pcg31 pcg32 pcg33 pcg34 pcg35 pcg36 pcg37 pcg38 pcg39 pcg40 pcg41 pcg42
theorem pcgLinkN (s : PC) (k : Nat) (h : k < 3) : (pcArr s)[12 + k]? = some (.int .i64 (s.link k)) := by
  rcases (by omega : k = 0 ∨ k = 1 ∨ k = 2) with rfl | rfl | rfl <;> rfl
theorem pcgUpN (s : PC) (i : Nat) (h : i < 2) : (pcArr s)[15 + i * 12]? = some (.bool (s.up i)) := by
  rcases (by omega : i = 0 ∨ i = 1) with rfl | rfl <;> rfl
theorem pcgEpochN (s : PC) (i : Nat) (h : i < 2) : (pcArr s)[15 + i * 12 + 1]? = some (.int .i64 (s.epoch i)) := by
  rcases (by omega : i = 0 ∨ i = 1) with rfl | rfl <;> rfl
theorem pcgTilN (s : PC) (i : Nat) (h : i < 2) : (pcArr s)[15 + i * 12 + 2]? = some (.int .i64 (s.til i)) := by
  rcases (by omega : i = 0 ∨ i = 1) with rfl | rfl <;> rfl
theorem pcgAloneN (s : PC) (i : Nat) (h : i < 2) : (pcArr s)[15 + i * 12 + 3]? = some (.bool (s.alone i)) := by
  rcases (by omega : i = 0 ∨ i = 1) with rfl | rfl <;> rfl
theorem pcgLevN (s : PC) (i k : Nat) (h : i < 2) (k4 : k < 4) : (pcArr s)[15 + i * 12 + 4 + k]? = some (.int .i64 (s.lev i k)) := by
  rcases (by omega : i = 0 ∨ i = 1) with rfl | rfl <;> rcases (by omega : k = 0 ∨ k = 1 ∨ k = 2 ∨ k = 3) with rfl | rfl | rfl | rfl <;> rfl
theorem pcgWinN (s : PC) (i k : Nat) (h : i < 2) (k4 : k < 4) : (pcArr s)[15 + i * 12 + 8 + k]? = some (.int .i64 (s.win i k)) := by
  rcases (by omega : i = 0 ∨ i = 1) with rfl | rfl <;> rcases (by omega : k = 0 ∨ k = 1 ∨ k = 2 ∨ k = 3) with rfl | rfl | rfl | rfl <;> rfl
attribute [local go_sem] pcgRateN pcgBurstN pcgLinkN pcgUpN pcgEpochN pcgTilN pcgAloneN pcgLevN pcgWinN

/-- A writer that has written these numbers. -/
def WAt (w : World) (g : Nat) (L : List Int) : Prop := BAt w g 52 #[.string ⟨(encL L).toArray⟩]
theorem enc_more (L : List Int) (n : Int) : (⟨(encL L).toArray⟩ : ByteArray) ++ ((⟨(Go.Lib.itoa n).toArray⟩ : ByteArray) ++ ⟨#[59]⟩) = ⟨(encL (L ++ [n])).toArray⟩ := by
  have e : encL (L ++ [n]) = encL L ++ (Go.Lib.itoa n ++ [59]) := by
    rw [encL_append]
    show encL L ++ (encN n ++ []) = _
    rw [List.append_nil]
    rfl
  rw [e]
  apply ByteArray.ext
  simp
theorem Kept.pre {S : Nat → Prop} {w w1 w2 : World} (h : Kept S w1 w2) (e1 : w1.heap = w.heap) (e2 : w1.os = w.os) (e3 : w1.tape = w.tape) (e4 : w1.output = w.output) : Kept S w w2 :=
  ⟨h.os.trans e2, h.tape.trans e3, h.output.trans e4, by rw [← e1]; exact h.size, by rw [← e1]; exact h.block⟩
theorem BAt.past {w w1 w2 : World} {b : Nat} {t : TypeId} {arr : Array Value} (h : BAt w b t arr) (k : Same w1 w2) (e : w1.heap = w.heap) : BAt w2 b t arr := by
  have h1 : BAt w1 b t arr := by
    unfold BAt at *
    rw [e]
    exact h
  exact h1.kept k (fun h => h)
/-- A number that an int can be. -/
def IsI (n : Int) : Prop := -9223372036854775808 ≤ n ∧ n ≤ 9223372036854775807

set_option maxRecDepth 100000 in
set_option maxHeartbeats 1000000 in
theorem wnumber_any (g : Nat) (L : List Int) (n : Int) (hn : IsI n) (hL : (encL L).length ≤ 4000) (w : World) (hl : Lib w) (hg : 0 < g) (h : WAt w g L) :
    Calls Tryd.prog 15 #[.pointer (some ⟨g, 0, none⟩), .int .i64 n] w fun e w' => e = .returned (.tuple #[]) ∧ WAt w' g (L ++ [n]) ∧ Wrote g w w' := by
  have hc : w.cell? ⟨g, 0, none⟩ = some (.string ⟨(encL L).toArray⟩) := h.cell 0
  have hf := BAt.free h
  have HL : Hid (Lib w) := hl
  have HB : Hid (BAt w g 52 #[.string ⟨(encL L).toArray⟩]) := h
  have HE : Hid ((⟨(encL L).toArray⟩ : ByteArray) ++ ((⟨(Go.Lib.itoa n).toArray⟩ : ByteArray) ++ ⟨#[59]⟩) = ⟨(encL (L ++ [n])).toArray⟩) := enc_more L n
  have HN : Hid (IsI n) := hn
  have HI : Hid (∀ W, Lib W → Calls Tryd.prog 39 #[.int .i64 n] W fun e w' => e = .returned (.string ⟨(Go.Lib.itoa n).toArray⟩) ∧ Same W w') := fun W hW => itoa_any n hn.1 hn.2 W hW
  have sT : (⟨(encL L).toArray⟩ : ByteArray).size ≤ 4000 := by simpa [ByteArray.size] using hL
  have sD : (⟨(Go.Lib.itoa n).toArray⟩ : ByteArray).size ≤ 21 := by simpa [ByteArray.size] using Go.Lib.itoa_length_le n hn.1 hn.2
  unfold WAt
  clear h hl hn hL
  generalize (⟨(encL L).toArray⟩ : ByteArray) = T at *
  generalize (⟨(encL (L ++ [n])).toArray⟩ : ByteArray) = T2 at *
  generalize (⟨(Go.Lib.itoa n).toArray⟩ : ByteArray) = D at *
  go_enter Tryd.func15, Tryd.ntmps15
  go_wp2_with fail
  go_region_with (go_at_call 39; (refine (HI.out _ (by exact HL.out)).mono ?_; rintro e w2 ⟨rfl, k2⟩; have hb2 := BAt.past HB.out k2 rfl; have c2 : w2.cell? ⟨g, 0, none⟩ = some (.string T) := hb2.cell 0; have f2 := BAt.free hb2; have k3 := Kept.pre (w := w) k2 rfl rfl rfl rfl; clear k2))
  all_goals
    go_end0
    refine ⟨rfl, ?_, Wrote.set (Same.wrote k3) 0 _⟩
    have hq := hb2.set 0 (.string (T ++ (D ++ ⟨#[59]⟩)))
    rw [HE.out] at hq ⊢
    exact hq

theorem encL_len (L : List Int) (h : ∀ n, n ∈ L → IsI n) (hl : L.length ≤ 180) : (encL L).length ≤ 4000 := by
  have := encL_le L h
  omega
/-- These are numbers that ints can be, and there are not many. -/
structure Few (L : List Int) (c : Nat) : Prop where
  isi : ∀ n, n ∈ L → IsI n
  len : L.length ≤ c
theorem Few.enc {L : List Int} {c : Nat} (h : Few L c) (hc : c ≤ 180) : (encL L).length ≤ 4000 := encL_len L h.isi (Nat.le_trans h.len hc)
theorem Few.snoc {L : List Int} {c : Nat} (h : Few L c) {n : Int} (hn : IsI n) : Few (L ++ [n]) (c + 1) := by
  refine ⟨fun m hm => ?_, by rw [List.length_append]; exact Nat.add_le_add_right h.len 1⟩
  rcases List.mem_append.1 hm with hm | hm
  · exact h.isi m hm
  · have : m = n := by simpa using hm
    rw [this]; exact hn
theorem Few.more {L : List Int} {c d : Nat} (h : Few L c) (hd : c ≤ d) : Few L d := ⟨h.isi, Nat.le_trans h.len hd⟩
theorem flagN_isi (b : Bool) : IsI (flagN b) := by cases b <;> (unfold IsI flagN; simp)

set_option maxRecDepth 100000 in
theorem wflag_any (g : Nat) (L : List Int) (b : Bool) (hL : (encL L).length ≤ 4000) (w : World) (hl : Lib w) (hg : 0 < g) (h : WAt w g L) :
    Calls Tryd.prog 40 #[.pointer (some ⟨g, 0, none⟩), .bool b] w fun e w' => e = .returned (.tuple #[]) ∧ WAt w' g (L ++ [flagN b]) ∧ Wrote g w w' := by
  have C1 := wnumber_any g L 1 (by unfold IsI; omega) hL w hl hg h
  have C0 := wnumber_any g L 0 (by unfold IsI; omega) hL w hl hg h
  clear h hl hL
  cases b
  · go_enter Tryd.func40, Tryd.ntmps40
    go_wp2_with fail
    refine C0.mono ?_
    rintro e w1 ⟨rfl, h1, k1⟩
    go_wp2_with fail
    go_end0
    exact ⟨rfl, h1, k1⟩
  · go_enter Tryd.func40, Tryd.ntmps40
    go_wp2_with fail
    refine C1.mono ?_
    rintro e w1 ⟨rfl, h1, k1⟩
    go_wp2_with fail
    try simp only [Exit.inBlock, Exit.then]
    refine bodyPost_ret (results_none rfl _ _ _) rfl ?_
    exact ⟨rfl, h1, k1⟩

theorem tenNums_snoc (s : PC) : ∀ (c i : Nat), tenNums s i (c + 1) = tenNums s i c ++ [s.rate (i + c)] ++ [s.burst (i + c)]
  | 0, i => rfl
  | c + 1, i => by
    show s.rate i :: s.burst i :: tenNums s (i + 1) (c + 1) = _
    rw [tenNums_snoc s c (i + 1)]
    show _ = s.rate i :: s.burst i :: tenNums s (i + 1) c ++ _ ++ _
    rw [show i + 1 + c = i + (c + 1) by omega]
    rfl
theorem rowNums_snoc (f : Nat → Int) : ∀ (c i : Nat), rowNums f i (c + 1) = rowNums f i c ++ [f (i + c)]
  | 0, i => rfl
  | c + 1, i => by
    show f i :: rowNums f (i + 1) (c + 1) = _
    rw [rowNums_snoc f c (i + 1)]
    show _ = f i :: rowNums f (i + 1) c ++ _
    rw [show i + 1 + c = i + (c + 1) by omega]
    rfl
/-- A cluster that is being written: so much is written. -/
structure WS (w0 w : World) (b g : Nat) (s : PC) (M : List Int) (c : Nat) : Prop where
  g0 : 0 < g
  bg : b ≠ g
  lib : Lib w
  pat : PAt w b s
  wat : WAt w g M
  few : Few M c
  kept : Wrote g w0 w
theorem WS.next {w0 w w' : World} {b g c c' : Nat} {s : PC} {M M' : List Int} (h : WS w0 w b g s M c) (h1 : WAt w' g M') (hf : Few M' c') (k : Wrote g w w') : WS w0 w' b g s M' c' :=
  ⟨h.g0, h.bg, h.lib.kept k (fun e => by have := h.g0; omega), h.pat.kept k h.bg, h1, hf, h.kept.trans k⟩
theorem WS.num {w0 w : World} {b g c : Nat} {s : PC} {M : List Int} (h : WS w0 w b g s M c) (hc : c ≤ 180) {n : Int} (hn : IsI n) :
    Calls Tryd.prog 15 #[.pointer (some ⟨g, 0, none⟩), .int .i64 n] w fun e w' => e = .returned (.tuple #[]) ∧ WS w0 w' b g s (M ++ [n]) (c + 1) := by
  refine (wnumber_any g M n hn (h.few.enc hc) w h.lib h.g0 h.wat).mono ?_
  rintro e w' ⟨rfl, h1, k⟩
  exact ⟨rfl, h.next h1 (h.few.snoc hn) k⟩
theorem WS.flag {w0 w : World} {b g c : Nat} {s : PC} {M : List Int} (h : WS w0 w b g s M c) (hc : c ≤ 180) (x : Bool) :
    Calls Tryd.prog 40 #[.pointer (some ⟨g, 0, none⟩), .bool x] w fun e w' => e = .returned (.tuple #[]) ∧ WS w0 w' b g s (M ++ [flagN x]) (c + 1) := by
  refine (wflag_any g M x (h.few.enc hc) w h.lib h.g0 h.wat).mono ?_
  rintro e w' ⟨rfl, h1, k⟩
  exact ⟨rfl, h.next h1 (h.few.snoc (flagN_isi x)) k⟩
theorem WS.more {w0 w : World} {b g c d : Nat} {s : PC} {M : List Int} (h : WS w0 w b g s M c) (hd : c ≤ d) : WS w0 w b g s M d := ⟨h.g0, h.bg, h.lib, h.pat, h.wat, h.few.more hd, h.kept⟩
theorem WS.as {w0 w : World} {b g c : Nat} {s : PC} {M M' : List Int} (h : WS w0 w b g s M c) (e : M = M') : WS w0 w b g s M' c := by rw [← e]; exact h

set_option maxRecDepth 100000 in
set_option maxHeartbeats 1000000 in
theorem wterms_any (b g : Nat) (s : PC) (M : List Int) (ok : s.Ok) (w0 w : World) (h : WS w0 w b g s M 20) :
    Calls Tryd.prog 14 #[.pointer (some ⟨b, 0, none⟩), .pointer (some ⟨g, 0, none⟩)] w fun e w' => e = .returned (.tuple #[]) ∧ WS w0 w' b g s (M ++ headNums s ++ tenNums s 0 s.count.toNat) 31 := by
  have c0 := ok.count0
  have c1 := ok.count1
  obtain ⟨n, hn⟩ : ∃ n : Nat, s.count = (n : Int) := ⟨s.count.toNat, by omega⟩
  have n4 : n ≤ 4 := by omega
  have n1 : 1 ≤ n := by omega
  rw [show s.count.toNat = n by omega]
  have il : Hid (IsI s.lease) := ⟨by have := ok.lease0; omega, by have := ok.lease1; omega⟩
  have iw : Hid (IsI s.window) := ⟨by have := ok.win0; omega, by have := ok.win1; omega⟩
  have ic : Hid (IsI s.count) := ⟨by omega, by omega⟩
  have ir : Hid (∀ k, IsI (s.rate k)) := fun k => ⟨by have := ok.rate0 k; omega, by have := ok.rate1 k; omega⟩
  have ib : Hid (∀ k, IsI (s.burst k)) := fun k => ⟨by have := ok.burst0 k; omega, by have := ok.burst1 k; omega⟩
  have HNN : Hid (s.count = (n : Int)) := hn
  have hC := h.pat.cell
  have H0 : Hid (WS w0 w b g s M 20) := h
  clear ok h c0 c1 hn
  go_enter Tryd.func14, Tryd.ntmps14
  go_wp2_with fail
  refine (H0.out.num (by omega) il.out).mono ?_
  rintro e w1 ⟨rfl, h1⟩
  have hC1 := h1.pat.cell
  have H1 : Hid (WS w0 w1 b g s (M ++ [s.lease]) 21) := h1
  clear hC h1 H0
  go_wp2_with fail
  refine (H1.out.num (by omega) iw.out).mono ?_
  rintro e w2 ⟨rfl, h2⟩
  have hC2 := h2.pat.cell
  have H2 : Hid (WS w0 w2 b g s (M ++ [s.lease] ++ [s.window]) 22) := h2
  clear hC1 h2 H1
  go_wp2_with fail
  refine (H2.out.num (by omega) ic.out).mono ?_
  rintro e w3 ⟨rfl, h3⟩
  have H3 : Hid (WS w0 w3 b g s (M ++ headNums s ++ tenNums s 0 0) (23 + 0 * 2)) := h3.as (by simp [headNums, tenNums])
  clear hC2 h3 H2
  go_wp2_with fail
  go_loopw [4] (fun x wr => ∃ k : Nat, k ≤ n ∧ x = .int .i64 k ∧ WS w0 wr b g s (M ++ headNums s ++ tenNums s 0 k) (23 + k * 2)) (fun x _ => n - (intOf x).toNat)
  case atStart => exact ⟨0, by omega, rfl, H3.out⟩
  case round =>
    obtain ⟨k, hk, rfl, hr⟩ := hrel
    clear H3
    have hC := hr.pat.cell
    have hcount : wr.cell? ⟨b, 2, none⟩ = some (.int .i64 (n : Int)) := by rw [hC 2, pcg2, HNN.out]
    have HR : Hid (WS w0 wr b g s (M ++ headNums s ++ tenNums s 0 k) (23 + k * 2)) := hr
    clear hr
    by_cases hlt : k < n
    · have hki : (k : Int) < n := by omega
      have k4 : k < 4 := by omega
      have cr : wr.cell? ⟨b, 3 + k * 2, none⟩ = some (.int .i64 (s.rate k)) := by rw [hC, pcgRateN s k k4]
      clear hC
      go_wp2_with fail
      refine (HR.out.num (by omega) (ir.out k)).mono ?_
      rintro e w4 ⟨rfl, h4⟩
      have cb : w4.cell? ⟨b, 3 + k * 2 + 1, none⟩ = some (.int .i64 (s.burst k)) := by rw [h4.pat.cell, pcgBurstN s k k4]
      have H4 : Hid (WS w0 w4 b g s (M ++ headNums s ++ tenNums s 0 k ++ [s.rate k]) (23 + k * 2 + 1)) := h4
      clear h4 HR cr hcount
      go_wp2_with fail
      refine (H4.out.num (by omega) (ib.out k)).mono ?_
      rintro e w5 ⟨rfl, h5⟩
      have H5 : Hid (WS w0 w5 b g s (M ++ headNums s ++ tenNums s 0 (k + 1)) (23 + (k + 1) * 2)) := (h5.as (by rw [tenNums_snoc]; simp [List.append_assoc])).more (by omega)
      clear h5 H4 cb
      go_wp2_with fail
      exact ⟨⟨k + 1, by omega, by go_num, H5.out⟩, by simp [intOf]; omega⟩
    · have hke : k = n := by omega
      subst hke
      clear hC
      go_wp2_with fail
      go_end0
      exact ⟨rfl, HR.out.more (by omega)⟩

end Go.Proofs.YtpfahgogjeignabDoor

namespace Go.Proofs.YtpfahgogjeignabDoor
open Go.RowKit
attribute [local go_sem ↓] Go.wp_at_zero Go.wp_at_succ
attribute [local go_sem] pcg0 pcg1 pcg2 pcg3 pcg4 pcg5 pcg6 pcg7 pcg8 pcg9 pcg10 pcg11 pcg12 pcg13 pcg14 pcg15 pcg16 pcg17 pcg18 pcg19 pcg20 pcg21 pcg22 pcg23 pcg24 pcg25 pcg26 pcg27 pcg28 pcg29 pcg30 pcg31 pcg32 pcg33 pcg34 pcg35 pcg36 pcg37 pcg38 pcg39 pcg40 pcg41 pcg42
attribute [local go_sem] pcgRateN pcgBurstN pcgLinkN pcgUpN pcgEpochN pcgTilN pcgAloneN pcgLevN pcgWinN

set_option maxRecDepth 100000 in
set_option maxHeartbeats 1000000 in
theorem wwit_none (b g : Nat) (s : PC) (M : List Int) (hh : s.holder = -1) (w0 w : World) (h : WS w0 w b g s M 40) :
    Calls Tryd.prog 16 #[.pointer (some ⟨b, 0, none⟩), .pointer (some ⟨g, 0, none⟩)] w fun e w' => e = .returned (.tuple #[]) ∧ WS w0 w' b g s (M ++ witNums s) 44 := by
  have hc : w.cell? ⟨b, 39, none⟩ = some (.int .i64 (-1)) := by rw [h.pat.cell, pcg39, hh]
  have e : witNums s = [0] := if_pos hh
  rw [e]
  have H0 : Hid (WS w0 w b g s M 40) := h
  have HH : Hid (s.holder = -1) := hh
  clear h hh e
  go_enter Tryd.func16, Tryd.ntmps16
  go_wp2_with fail
  refine (H0.out.num (n := 0) (by omega) ⟨by omega, by omega⟩).mono ?_
  rintro e w1 ⟨rfl, h1⟩
  have hc1 : w1.cell? ⟨b, 39, none⟩ = some (.int .i64 (-1)) := by rw [h1.pat.cell, pcg39, HH.out]
  have H1 : Hid (WS w0 w1 b g s (M ++ [0]) 41) := h1
  clear h1 H0 hc
  go_wp2_with fail
  try simp only [Exit.inBlock, Exit.then]
  refine bodyPost_ret (results_none rfl _ _ _) rfl ?_
  exact ⟨rfl, H1.out.more (by omega)⟩

set_option maxRecDepth 100000 in
set_option maxHeartbeats 1000000 in
theorem wwit_some (b g : Nat) (s : PC) (M : List Int) (hh : s.holder = 0 ∨ s.holder = 1) (hb1 : 0 ≤ s.wtil ∧ s.wtil ≤ 1000000001000) (hb2 : IsI s.wepoch) (w0 w : World) (h : WS w0 w b g s M 40) :
    Calls Tryd.prog 16 #[.pointer (some ⟨b, 0, none⟩), .pointer (some ⟨g, 0, none⟩)] w fun e w' => e = .returned (.tuple #[]) ∧ WS w0 w' b g s (M ++ witNums s) 44 := by
  have hC := h.pat.cell
  have e : witNums s = [s.holder + 1, s.wtil, s.wepoch, flagN s.solo] := if_neg (by omega)
  rw [e]
  have i1 : Hid (IsI s.wtil) := ⟨by omega, by omega⟩
  have i2 : Hid (IsI s.wepoch) := hb2
  have H0 : Hid (WS w0 w b g s M 40) := h
  have hne : (s.holder == -1) = false := by
    rcases hh with q | q <;> rw [q] <;> rfl
  have hd : decide (s.holder = -1) = false := decide_eq_false (by omega)
  have hhi : -1 < s.holder ∧ s.holder < 2 := by omega
  obtain ⟨q0, q1⟩ := hhi
  clear h hh e hb1 hb2
  generalize hH : s.holder = ho at *
  have HH : Hid (s.holder = ho) := hH
  clear hH
  have hc : w.cell? ⟨b, 39, none⟩ = some (.int .i64 ho) := by rw [hC, pcg39, HH.out]
  clear hC
  go_enter Tryd.func16, Tryd.ntmps16
  go_wp2_with fail
  refine (H0.out.num (by omega) ⟨by omega, by omega⟩).mono ?_
  rintro e w1 ⟨rfl, h1⟩
  have hc1 : w1.cell? ⟨b, 39, none⟩ = some (.int .i64 ho) := by rw [h1.pat.cell, pcg39, HH.out]
  have hc2 : w1.cell? ⟨b, 41, none⟩ = some (.int .i64 s.wtil) := by rw [h1.pat.cell, pcg41]
  have H1 := show Hid _ from h1
  clear h1 H0 hc
  go_wp2_with fail
  refine (H1.out.num (by omega) i1.out).mono ?_
  rintro e w2 ⟨rfl, h2⟩
  have hc3 : w2.cell? ⟨b, 40, none⟩ = some (.int .i64 s.wepoch) := by rw [h2.pat.cell, pcg40]
  have H2 := show Hid _ from h2
  clear h2 H1 hc1 hc2
  go_wp2_with fail
  refine (H2.out.num (by omega) i2.out).mono ?_
  rintro e w3 ⟨rfl, h3⟩
  have hc4 : w3.cell? ⟨b, 42, none⟩ = some (.bool s.solo) := by rw [h3.pat.cell, pcg42]
  have H3 := show Hid _ from h3
  clear h3 H2 hc3
  go_wp2_with fail
  refine (H3.out.flag (by omega) s.solo).mono ?_
  rintro e w4 ⟨rfl, h4⟩
  have H4 := show Hid _ from h4
  clear h4 H3 hc4
  go_wp2_with fail
  go_end0
  refine ⟨rfl, (H4.out.as ?_).more (by omega)⟩
  simp [List.append_assoc]

theorem WS.base {w0 w : World} {b g c : Nat} {s : PC} {M : List Int} (h : WS w0 w b g s M c) : WS w w b g s M c := ⟨h.g0, h.bg, h.lib, h.pat, h.wat, h.few, Kept.refl _ _⟩
theorem WS.join {w0 w w' : World} {b g c c' : Nat} {s : PC} {M M' : List Int} (h : WS w0 w b g s M c) (h2 : WS w w' b g s M' c') : WS w0 w' b g s M' c' := ⟨h2.g0, h2.bg, h2.lib, h2.pat, h2.wat, h2.few, h.kept.trans h2.kept⟩
theorem WS.alloc {w0 w : World} {b g c : Nat} {s : PC} {M : List Int} (h : WS w0 w b g s M c) (o : Obj) : WS w0 (w.alloc o) b g s M c :=
  ⟨h.g0, h.bg, h.lib.alloc o, PAt.kept h.pat (Kept.alloc (Kept.refl (fun _ => False) w) o) (fun h => h), BAt.alloc h.wat o, h.few, Kept.alloc h.kept o⟩

set_option maxRecDepth 100000 in
set_option maxHeartbeats 2000000 in
theorem wgate_any (b g : Nat) (s : PC) (M : List Int) (i : Nat) (hi : i < 2) (ok : s.Ok) (it : IsI (s.til i)) (ie : IsI (s.epoch i)) (w0 w : World) (c : Nat) (hc : c ≤ 100) (h : WS w0 w b g s M c) :
    Calls Tryd.prog 17 #[.pointer (some ⟨b, 0, none⟩), .pointer (some ⟨g, 0, none⟩), .int .i64 i] w fun e w' => e = .returned (.tuple #[]) ∧ WS w0 w' b g s (M ++ gateNums s i) (c + 12) := by
  have c0 := ok.count0
  have c1 := ok.count1
  obtain ⟨n, hn⟩ : ∃ n : Nat, s.count = (n : Int) := ⟨s.count.toNat, by omega⟩
  have n4 : n ≤ 4 := by omega
  have hi2 : (i : Int) < 2 := by omega
  have il : Hid (∀ k, IsI (s.lev i k)) := fun k => ⟨by have := ok.lev0 i k; omega, by have := ok.lev1 i k; omega⟩
  have iw : Hid (∀ k, IsI (s.win i k)) := fun k => ⟨by have := ok.wn0 i k; omega, by have := ok.wn1 i k; have := ok.win1; omega⟩
  have IT : Hid (IsI (s.til i)) := it
  have IE : Hid (IsI (s.epoch i)) := ie
  have HNN : Hid (s.count = (n : Int)) := hn
  have HGN : Hid (gateNums s i = rowNums (s.lev i) 0 n ++ if s.up i then [1, s.til i, s.epoch i, flagN (s.alone i)] ++ rowNums (s.win i) 0 n else [0]) := by
    unfold gateNums upNums
    rw [show s.count.toNat = n by omega]
    rfl
  have H0 : Hid (WS w0 w b g s (M ++ rowNums (s.lev i) 0 0) (c + 0)) := h.as (by simp [rowNums])
  clear ok it ie h c0 c1 hn
  go_enter Tryd.func17, Tryd.ntmps17
  go_wp2_with fail
  go_loopw [6] (fun x wr => ∃ k : Nat, k ≤ n ∧ x = .int .i64 k ∧ WS w0 wr b g s (M ++ rowNums (s.lev i) 0 k) (c + k)) (fun x _ => n - (intOf x).toNat)
  case atStart => exact ⟨0, by omega, rfl, H0.out⟩
  case round =>
    obtain ⟨k, hk, rfl, hr⟩ := hrel
    clear H0
    have hcount : wr.cell? ⟨b, 2, none⟩ = some (.int .i64 (n : Int)) := by rw [hr.pat.cell, pcg2, HNN.out]
    have HR : Hid (WS w0 wr b g s (M ++ rowNums (s.lev i) 0 k) (c + k)) := hr
    by_cases hlt : k < n
    · have hki : (k : Int) < n := by omega
      have k4 : k < 4 := by omega
      have cl : wr.cell? ⟨b, 15 + i * 12 + 4 + k, none⟩ = some (.int .i64 (s.lev i k)) := by rw [hr.pat.cell, pcgLevN s i k hi k4]
      clear hr
      go_wp2_with fail
      refine (HR.out.num (by omega) (il.out k)).mono ?_
      rintro e w4 ⟨rfl, h4⟩
      have H4 : Hid (WS w0 w4 b g s (M ++ rowNums (s.lev i) 0 (k + 1)) (c + (k + 1))) := h4.as (by rw [rowNums_snoc]; simp [List.append_assoc])
      clear h4 HR cl hcount
      go_wp2_with fail
      exact ⟨⟨k + 1, by omega, by go_num, H4.out⟩, by simp [intOf]; omega⟩
    · have hke : k = n := by omega
      subst hke
      have o0 : wr.cell? ⟨b, 15 + i * 12, none⟩ = some (.bool (s.up i)) := by rw [hr.pat.cell, pcgUpN s i hi]
      have o1 : wr.cell? ⟨b, 15 + i * 12 + 1, none⟩ = some (.int .i64 (s.epoch i)) := by rw [hr.pat.cell, pcgEpochN s i hi]
      have o2 : wr.cell? ⟨b, 15 + i * 12 + 2, none⟩ = some (.int .i64 (s.til i)) := by rw [hr.pat.cell, pcgTilN s i hi]
      have o3 : wr.cell? ⟨b, 15 + i * 12 + 3, none⟩ = some (.bool (s.alone i)) := by rw [hr.pat.cell, pcgAloneN s i hi]
      clear hr
      have hgl := BAt.lt HR.out.wat
      have hog : wr.heap.size ≠ g := by omega
      have HB1 : Hid (BAt (wr.alloc (.cells #[.bool (s.up i), .int .i64 (s.epoch i), .int .i64 (s.til i), .bool (s.alone i)] 60)) wr.heap.size 60 #[.bool (s.up i), .int .i64 (s.epoch i), .int .i64 (s.til i), .bool (s.alone i)]) := BAt.made' _ _ rfl _ _
      have HA : Hid (WS w0 (wr.alloc (.cells #[.bool (s.up i), .int .i64 (s.epoch i), .int .i64 (s.til i), .bool (s.alone i)] 60)) b g s (M ++ rowNums (s.lev i) 0 k) (c + k)) := HR.out.alloc _
      go_wp2_with fail
      clear o0 o1 o2 o3 hcount HR
      generalize wr.alloc (.cells #[.bool (s.up i), .int .i64 (s.epoch i), .int .i64 (s.til i), .bool (s.alone i)] 60) = w1 at *
      generalize wr.heap.size = o at *
      refine (HA.out.base.flag (by omega) (s.up i)).mono ?_
      rintro e w5 ⟨rfl, h5⟩
      have hb5 := HB1.out.kept h5.kept hog
      have c50 : w5.cell? ⟨o, 0, none⟩ = some (.bool (s.up i)) := hb5.cell 0
      have c52 : w5.cell? ⟨o, 2, none⟩ = some (.int .i64 (s.til i)) := hb5.cell 2
      by_cases hu : s.up i = true
      · rw [hu] at c50 h5
        have e2 : gateNums s i = rowNums (s.lev i) 0 k ++ ([1, s.til i, s.epoch i, flagN (s.alone i)] ++ rowNums (s.win i) 0 k) := by rw [HGN.out, if_pos hu]
        have HE : Hid (gateNums s i = rowNums (s.lev i) 0 k ++ ([1, s.til i, s.epoch i, flagN (s.alone i)] ++ rowNums (s.win i) 0 k)) := e2
        have H5 : Hid (WS w1 w5 b g s (M ++ rowNums (s.lev i) 0 k ++ [flagN true]) (c + k + 1)) := h5
        clear h5 e2 hb5 hu HGN
        go_wp2_with fail
        refine (H5.out.num (by omega) IT.out).mono ?_
        rintro e w6 ⟨rfl, h6⟩
        have c61 : w6.cell? ⟨o, 1, none⟩ = some (.int .i64 (s.epoch i)) := (HB1.out.kept h6.kept hog).cell 1
        have H6 := show Hid _ from h6
        clear h6 H5 c50 c52
        go_wp2_with fail
        refine (H6.out.num (by omega) IE.out).mono ?_
        rintro e w7 ⟨rfl, h7⟩
        have c73 : w7.cell? ⟨o, 3, none⟩ = some (.bool (s.alone i)) := (HB1.out.kept h7.kept hog).cell 3
        have H7 := show Hid _ from h7
        clear h7 H6 c61
        go_wp2_with fail
        refine (H7.out.flag (by omega) (s.alone i)).mono ?_
        rintro e w8 ⟨rfl, h8⟩
        have H8 : Hid (WS w0 w8 b g s (M ++ rowNums (s.lev i) 0 k ++ [1, s.til i, s.epoch i, flagN (s.alone i)] ++ rowNums (s.win i) 0 0) (c + 4 + k + 0)) := ((HA.out.join h8).as (by simp [List.append_assoc, rowNums, flagN])).more (by omega)
        clear h8 H7 c73 HA HB1
        go_wp2_with fail
        go_loopw [8] (fun x wx => ∃ q : Nat, q ≤ k ∧ x = .int .i64 q ∧ WS w0 wx b g s (M ++ rowNums (s.lev i) 0 k ++ [1, s.til i, s.epoch i, flagN (s.alone i)] ++ rowNums (s.win i) 0 q) (c + 4 + k + q)) (fun x _ => k - (intOf x).toNat)
        case atStart => exact ⟨0, by omega, rfl, H8.out⟩
        case round =>
          obtain ⟨q, hq, rfl, hr⟩ := hrel
          clear H8
          have hcount : wr.cell? ⟨b, 2, none⟩ = some (.int .i64 (k : Int)) := by rw [hr.pat.cell, pcg2, HNN.out]
          have HR : Hid (WS w0 wr b g s (M ++ rowNums (s.lev i) 0 k ++ [1, s.til i, s.epoch i, flagN (s.alone i)] ++ rowNums (s.win i) 0 q) (c + 4 + k + q)) := hr
          by_cases hlq : q < k
          · have hqi : (q : Int) < k := by omega
            have q4 : q < 4 := by omega
            have cw : wr.cell? ⟨b, 15 + i * 12 + 8 + q, none⟩ = some (.int .i64 (s.win i q)) := by rw [hr.pat.cell, pcgWinN s i q hi q4]
            clear hr
            go_wp2_with fail
            refine (HR.out.num (by omega) (iw.out q)).mono ?_
            rintro e w9 ⟨rfl, h9⟩
            have H9 : Hid (WS w0 w9 b g s (M ++ rowNums (s.lev i) 0 k ++ [1, s.til i, s.epoch i, flagN (s.alone i)] ++ rowNums (s.win i) 0 (q + 1)) (c + 4 + k + (q + 1))) := h9.as (by rw [rowNums_snoc]; simp [List.append_assoc])
            clear h9 HR cw hcount
            go_wp2_with fail
            exact ⟨⟨q + 1, by omega, by go_num, H9.out⟩, by simp [intOf]; omega⟩
          · have hqe : q = k := by omega
            subst hqe
            clear hr
            go_wp2_with fail
            go_end0
            refine ⟨rfl, (HR.out.as ?_).more (by omega)⟩
            rw [HE.out]
            simp [List.append_assoc]
      · have hu' : s.up i = false := by simpa using hu
        rw [hu'] at c50 h5
        have e2 : gateNums s i = rowNums (s.lev i) 0 k ++ [0] := by rw [HGN.out, if_neg hu]
        have HE : Hid (gateNums s i = rowNums (s.lev i) 0 k ++ [0]) := e2
        have H5 : Hid (WS w0 w5 b g s (M ++ rowNums (s.lev i) 0 k ++ [0]) (c + k + 1)) := HA.out.join h5
        clear h5 e2 hb5 hu hu' HGN HA HB1
        go_wp2_with fail
        try simp only [Exit.inBlock, Exit.then]
        refine bodyPost_ret (results_none rfl _ _ _) rfl ?_
        refine ⟨rfl, (H5.out.as ?_).more (by omega)⟩
        rw [HE.out, List.append_assoc]

theorem index3 (x0 x1 x2 : Int) (W : World) : (Instr.index 58 (.agg #[.int .i64 x0, .int .i64 x1, .int .i64 x2]) (.int .i64 0)).run Tryd.prog W = .ok (.int .i64 x0) W ∧ (Instr.index 58 (.agg #[.int .i64 x0, .int .i64 x1, .int .i64 x2]) (.int .i64 1)).run Tryd.prog W = .ok (.int .i64 x1) W ∧
    (Instr.index 58 (.agg #[.int .i64 x0, .int .i64 x1, .int .i64 x2]) (.int .i64 2)).run Tryd.prog W = .ok (.int .i64 x2) W := by
  refine ⟨?_, ?_, ?_⟩ <;> simp [Instr.index, run_underlying Tryd.underlying58, asIntOf, go_sem] <;> rfl
def gatesTo (s : PC) : Nat → List Int
  | 0 => []
  | i + 1 => gatesTo s i ++ gateNums s i
/-- What is asked of a cluster that is written. -/
structure Sav (s : PC) : Prop where
  ok : s.Ok
  who : s.holder = -1 ∨ s.holder = 0 ∨ s.holder = 1
  wtil : 0 ≤ s.wtil ∧ s.wtil ≤ 1000000001000
  wep : IsI s.wepoch
  link : ∀ j, j < 3 → IsI (s.link j)
  til : ∀ i, i < 2 → IsI (s.til i)
  ep : ∀ i, i < 2 → IsI (s.epoch i)

set_option maxRecDepth 100000 in
set_option maxHeartbeats 2000000 in
theorem save_walk (b : Nat) (s : PC) (hs : Sav s) (w : World) (hl : Lib w) (hp : PAt w b s) :
    Calls Tryd.prog 6 #[.pointer (some ⟨b, 0, none⟩)] w fun e w' => e = .returned (.string (saveText s)) ∧ Same w w' := by
  have hbl := hp.lt
  have hpos := hl.pos
  have n0 := hs.ok.now0
  have n1 := hs.ok.now1
  have few0 : Few [] 20 := ⟨fun _ h => (List.not_mem_nil h).elim, by show (0 : Nat) ≤ 20; omega⟩
  have HW : Hid (WS (w.alloc (.cells #[.string ⟨#[]⟩] 52)) (w.alloc (.cells #[.string ⟨#[]⟩] 52)) b w.heap.size s [] 20) :=
    ⟨hpos, by omega, hl.alloc _, PAt.kept hp (Kept.alloc (Kept.refl (fun _ => False) w) _) (fun h => h), BAt.made' _ _ rfl _ _, few0, Kept.refl _ _⟩
  have HS : Hid (Same w (w.alloc (.cells #[.string ⟨#[]⟩] 52))) := Kept.alloc (Kept.refl _ _) _
  have HX : Hid (Sav s) := hs
  have INOW : Hid (IsI s.now) := ⟨by omega, by omega⟩
  clear hs hl hp hpos n0 n1 few0
  go_enter Tryd.func6, Tryd.ntmps6
  go_wp2_with fail
  generalize w.alloc (.cells #[.string ⟨#[]⟩] 52) = wa at *
  have HY : Hid (∀ w', Wrote w.heap.size wa w' → Same w w') := fun w' k => ⟨k.os.trans HS.out.os, k.tape.trans HS.out.tape, k.output.trans HS.out.output, Nat.le_trans HS.out.size k.size, fun j hj _ => (k.block j (Nat.lt_of_lt_of_le hj HS.out.size) (by omega)).trans (HS.out.block j hj (fun h => h))⟩
  generalize w.heap.size = g at *
  refine (wterms_any b g s [] HX.out.ok wa wa HW.out).mono ?_
  rintro e w1 ⟨rfl, h1⟩
  have c1 : w1.cell? ⟨b, 11, none⟩ = some (.int .i64 s.now) := by rw [h1.pat.cell, pcg11]
  have H1 := show Hid _ from h1
  clear h1 HW
  go_wp2_with fail
  refine (H1.out.num (by omega) INOW.out).mono ?_
  rintro e w2 ⟨rfl, h2⟩
  have d0 : w2.cell? ⟨b, 12, none⟩ = some (.int .i64 (s.link 0)) := by rw [h2.pat.cell, pcg12]
  have d1 : w2.cell? ⟨b, 13, none⟩ = some (.int .i64 (s.link 1)) := by rw [h2.pat.cell, pcg13]
  have d2 : w2.cell? ⟨b, 14, none⟩ = some (.int .i64 (s.link 2)) := by rw [h2.pat.cell, pcg14]
  have H2 : Hid (WS wa w2 b g s (headNums s ++ tenNums s 0 s.count.toNat ++ [s.now] ++ rowNums s.link 0 0) (32 + 0)) := h2.as (by simp [rowNums])
  clear h2 H1 c1
  go_wp2_with fail
  go_loopw [22] (fun x wr => ∃ q : Nat, q ≤ 3 ∧ x = .int .i64 q ∧ WS wa wr b g s (headNums s ++ tenNums s 0 s.count.toNat ++ [s.now] ++ rowNums s.link 0 q) (32 + q)) (fun x _ => 3 - (intOf x).toNat)
  case atStart => exact ⟨0, by omega, rfl, H2.out⟩
  case round =>
    obtain ⟨q, hq, rfl, hr⟩ := hrel
    clear H2 d0 d1 d2
    have HR : Hid (WS wa wr b g s (headNums s ++ tenNums s 0 s.count.toNat ++ [s.now] ++ rowNums s.link 0 q) (32 + q)) := hr
    by_cases hlq : q < 3
    · clear hr
      have hx := index3 (s.link 0) (s.link 1) (s.link 2)
      rcases (by omega : q = 0 ∨ q = 1 ∨ q = 2) with rfl | rfl | rfl
      · have hx1 := fun W => (hx W).1
        clear hx
        go_wp2_with fail
        refine (HR.out.num (by omega) (HX.out.link _ hlq)).mono ?_
        rintro e w4 ⟨rfl, h4⟩
        have H4 := show Hid _ from h4
        clear h4
        go_wp2_with fail
        refine ⟨⟨1, by omega, rfl, H4.out.as ?_⟩, by simp [intOf]⟩
        simp [rowNums, List.append_assoc]
      · have hx1 := fun W => (hx W).2.1
        clear hx
        go_wp2_with fail
        refine (HR.out.num (by omega) (HX.out.link _ hlq)).mono ?_
        rintro e w4 ⟨rfl, h4⟩
        have H4 := show Hid _ from h4
        clear h4
        go_wp2_with fail
        refine ⟨⟨2, by omega, rfl, H4.out.as ?_⟩, by simp [intOf]⟩
        simp [rowNums, List.append_assoc]
      · have hx1 := fun W => (hx W).2.2
        clear hx
        go_wp2_with fail
        refine (HR.out.num (by omega) (HX.out.link _ hlq)).mono ?_
        rintro e w4 ⟨rfl, h4⟩
        have H4 := show Hid _ from h4
        clear h4
        go_wp2_with fail
        refine ⟨⟨3, by omega, rfl, H4.out.as ?_⟩, by simp [intOf]⟩
        simp [rowNums, List.append_assoc]
    · have hqe : q = 3 := by omega
      subst hqe
      clear hr
      go_wp2_with fail
      have C : Calls Tryd.prog 16 #[.pointer (some ⟨b, 0, none⟩), .pointer (some ⟨g, 0, none⟩)] wr fun e w' => e = .returned (.tuple #[]) ∧ WS wa w' b g s (headNums s ++ tenNums s 0 s.count.toNat ++ [s.now] ++ rowNums s.link 0 3 ++ witNums s) 44 := by
        rcases HX.out.who with q | q
        · exact wwit_none b g s _ q wa wr (HR.out.more (by omega))
        · exact wwit_some b g s _ q HX.out.wtil HX.out.wep wa wr (HR.out.more (by omega))
      refine C.mono ?_
      rintro e w5 ⟨rfl, h5⟩
      have H5 : Hid (WS wa w5 b g s (headNums s ++ tenNums s 0 s.count.toNat ++ [s.now] ++ rowNums s.link 0 3 ++ witNums s) 44) := h5
      clear h5 HR C
      go_wp2_with fail
      go_loopw [32] (fun x wx => ∃ q : Nat, q ≤ 2 ∧ x = .int .i64 q ∧ WS wa wx b g s (headNums s ++ tenNums s 0 s.count.toNat ++ [s.now] ++ rowNums s.link 0 3 ++ witNums s ++ gatesTo s q) (44 + q * 12)) (fun x _ => 2 - (intOf x).toNat)
      case atStart => exact ⟨0, by omega, rfl, H5.out.as (by simp [gatesTo])⟩
      case round =>
        obtain ⟨q, hq, rfl, hr⟩ := hrel
        have HR : Hid (WS wa wr b g s (headNums s ++ tenNums s 0 s.count.toNat ++ [s.now] ++ rowNums s.link 0 3 ++ witNums s ++ gatesTo s q) (44 + q * 12)) := hr
        clear hr H5
        by_cases hlq : q < 2
        · have hqi : (q : Int) < 2 := by omega
          go_wp2_with fail
          refine (wgate_any b g s _ q hlq HX.out.ok (HX.out.til q hlq) (HX.out.ep q hlq) wa wr _ (by omega) HR.out).mono ?_
          rintro e w6 ⟨rfl, h6⟩
          have H6 : Hid (WS wa w6 b g s (headNums s ++ tenNums s 0 s.count.toNat ++ [s.now] ++ rowNums s.link 0 3 ++ witNums s ++ gatesTo s (q + 1)) (44 + (q + 1) * 12)) := (h6.as (by simp [gatesTo, List.append_assoc])).more (by omega)
          clear h6 HR
          go_wp2_with fail
          exact ⟨⟨q + 1, by omega, by go_num, H6.out⟩, by simp [intOf]; omega⟩
        · have hqe : q = 2 := by omega
          subst hqe
          have e9 : headNums s ++ tenNums s 0 s.count.toNat ++ [s.now] ++ rowNums s.link 0 3 ++ witNums s ++ gatesTo s 2 = nums s := by
            unfold nums gatesTo gatesTo gatesTo
            simp [List.append_assoc]
          have hT : wr.cell? ⟨g, 0, none⟩ = some (.string (saveText s)) := (BAt.cell (HR.out.as e9).wat 0)
          clear e9
          go_wp2_with fail
          go_ret
          exact ⟨rfl, HY.out _ HR.out.kept⟩

end Go.Proofs.YtpfahgogjeignabDoor

namespace Go.Proofs.YtpfahgogjeignabDoor
open Go.RowKit
attribute [local go_sem ↓] Go.wp_at_zero Go.wp_at_succ

/-- A reader of the text T. -/
def RdAt (w : World) (g : Nat) (T : ByteArray) (r : Rd) : Prop := BAt w g 72 #[.string T, .int .i64 r.pos, .bool r.bad]

theorem byte_at (T : ByteArray) (p : Nat) (h : p < T.size) : T.data.toList.drop p = T[p]'h :: T.data.toList.drop (p + 1) := by
  have h' : p < T.data.toList.length := by
    rw [Array.length_toList]
    exact h
  exact List.drop_eq_getElem_cons h'

set_option maxRecDepth 100000 in
set_option maxHeartbeats 1000000 in
theorem isDigit_any (g : Nat) (T : ByteArray) (hT : T.size ≤ 140737488355328) (r : Rd) (hp : r.pos < T.size) (w : World) (h : RdAt w g T r) :
    Calls Tryd.prog 67 #[.pointer (some ⟨g, 0, none⟩)] w fun e w' => e = .returned (.bool (decide (isDig (T[r.pos]'hp)))) ∧ Same w w' := by
  have c0 : w.cell? ⟨g, 0, none⟩ = some (.string T) := BAt.cell h 0
  have c1 : w.cell? ⟨g, 1, none⟩ = some (.int .i64 r.pos) := BAt.cell h 1
  have hpi : (r.pos : Int) < T.size := by omega
  clear h
  generalize r.pos = p at *
  generalize e : T[p]'hp = d at *
  by_cases h0 : 48 ≤ d.toNat
  · have d0 : decide ((48 : Int) ≤ (d.toNat : Int)) = true := decide_eq_true (by omega)
    by_cases h1 : d.toNat ≤ 57
    · have d1 : decide ((d.toNat : Int) ≤ (57 : Int)) = true := decide_eq_true (by omega)
      have HD : Hid (decide (isDig d) = true) := decide_eq_true ⟨h0, h1⟩
      clear h0 h1
      go_enter Tryd.func67, Tryd.ntmps67
      go_wp2_with fail
      go_quiet (fail)
      go_wp2_with fail
      go_ret
      refine ⟨by rw [HD.out]; rfl, ?_⟩
      repeat (with_reducible first | exact Kept.refl _ _ | refine Kept.drew ?_ | refine Kept.drewN ?_ _)
    · have d1 : decide ((d.toNat : Int) ≤ (57 : Int)) = false := decide_eq_false (by omega)
      have HD : Hid (decide (isDig d) = false) := decide_eq_false (fun hh => h1 hh.2)
      clear h0 h1
      go_enter Tryd.func67, Tryd.ntmps67
      go_wp2_with fail
      go_quiet (fail)
      go_wp2_with fail
      go_ret
      refine ⟨by rw [HD.out]; rfl, ?_⟩
      repeat (with_reducible first | exact Kept.refl _ _ | refine Kept.drew ?_ | refine Kept.drewN ?_ _)
  · have d0 : decide ((48 : Int) ≤ (d.toNat : Int)) = false := decide_eq_false (by omega)
    have HD : Hid (decide (isDig d) = false) := decide_eq_false (fun hh => h0 hh.1)
    clear h0
    go_enter Tryd.func67, Tryd.ntmps67
    go_wp2_with fail
    go_quiet (fail)
    go_wp2_with fail
    go_ret
    refine ⟨by rw [HD.out]; rfl, ?_⟩
    repeat (with_reducible first | exact Kept.refl _ _ | refine Kept.drew ?_ | refine Kept.drewN ?_ _)
set_option maxRecDepth 100000 in
set_option maxHeartbeats 1000000 in
theorem isDigit_end (g : Nat) (T : ByteArray) (hT : T.size ≤ 140737488355328) (r : Rd) (hp : ¬ r.pos < T.size) (w : World) (h : RdAt w g T r) :
    Calls Tryd.prog 67 #[.pointer (some ⟨g, 0, none⟩)] w fun e w' => e = .returned (.bool false) ∧ Same w w' := by
  have c0 : w.cell? ⟨g, 0, none⟩ = some (.string T) := BAt.cell h 0
  have c1 : w.cell? ⟨g, 1, none⟩ = some (.int .i64 r.pos) := BAt.cell h 1
  have hpi : decide (r.pos < T.size) = false := decide_eq_false hp
  clear h hp
  generalize r.pos = p at *
  go_enter Tryd.func67, Tryd.ntmps67
  go_wp2_with fail
  go_quiet (fail)
  go_wp2_with fail
  go_ret
  refine ⟨rfl, ?_⟩
  repeat (with_reducible first | exact Kept.refl _ _ | refine Kept.drew ?_ | refine Kept.drewN ?_ _)

/-- Where a reader stands, by its cell. -/
def posN : Option Value → Nat
  | some (.int _ k) => k.toNat
  | _ => 0
theorem Lib.hidden {w : World} {g : Nat} {w' : World} (h : Lib w) (hg : 0 < g) (k : Wrote g w w') : Lib w' := h.kept k (fun e => by omega)
theorem scan_go {most : Int} {T : ByteArray} {p : Nat} (hp : p < T.size) {n : Int} (hn : n ≤ most) (hd : isDig (T[p]'hp)) :
    scan most (T.data.toList.drop p) n = ((scan most (T.data.toList.drop (p + 1)) (n * 10 + (((T[p]'hp).toNat : Int) - 48))).1, (scan most (T.data.toList.drop (p + 1)) (n * 10 + (((T[p]'hp).toNat : Int) - 48))).2 + 1) := by
  rw [byte_at T p hp]
  show (if n ≤ most ∧ isDig (T[p]'hp) then _ else _) = _
  rw [if_pos ⟨hn, hd⟩]
theorem scan_stop {most : Int} {T : ByteArray} {p : Nat} {n : Int} (h : most < n ∨ ¬ p < T.size ∨ ∃ hp : p < T.size, ¬ isDig (T[p]'hp)) : scan most (T.data.toList.drop p) n = (n, 0) := by
  by_cases hp : p < T.size
  · rw [byte_at T p hp]
    show (if n ≤ most ∧ isDig (T[p]'hp) then _ else _) = _
    rw [if_neg]
    rintro ⟨a, b⟩
    rcases h with h | h | ⟨_, h⟩
    · omega
    · exact h hp
    · exact h b
  · rw [List.drop_eq_nil_of_le (by rw [Array.length_toList]; exact Nat.le_of_not_lt hp)]
    rfl

theorem decR_of {T : ByteArray} {p q : Nat} {most n : Int} (hpq : p ≤ q) (hs : scan most (T.data.toList.drop p) 0 = (n, q - p)) : decR T.data.toList p most = if (T.data.toList.drop p).take (encN n).length = encN n then (n, p + (encN n).length, true) else (0, q, false) := by
  unfold decR
  rw [hs]
  dsimp only
  rw [show p + (q - p) = q by omega]
theorem enc_size (n : Int) : (encN n).length = (⟨(Go.Lib.itoa n).toArray⟩ : ByteArray).size + 1 := by
  rw [Go.Lib.size_eq]
  simp [encN]
theorem enc_one (n : Int) : (⟨(Go.Lib.itoa n).toArray⟩ : ByteArray) ++ ⟨#[59]⟩ = ⟨(encN n).toArray⟩ := by
  apply ByteArray.ext
  simp [encN]
theorem take_fits {T : ByteArray} {p k : Nat} (h : ((T.data.toList.drop p).take k).length = k) (hp : p ≤ T.size) : p + k ≤ T.size := by
  rw [List.length_take, List.length_drop, ← Go.Lib.size_eq] at h
  omega
theorem cmp_is {T V : ByteArray} {n : Int} {p k : Nat} (hV : V = ⟨(encN n).toArray⟩) : ((T.extract p (p + k)).toList == V.toList) = decide ((T.data.toList.drop p).take k = encN n) := by
  rw [Go.Lib.extract_toList, hV, ByteArray.toList_mk, Nat.add_sub_cancel_left, Bool.eq_iff_iff]
  simp
theorem cmp_yes {T V : ByteArray} {n : Int} {p k : Nat} (hV : V = ⟨(encN n).toArray⟩) (h : (T.data.toList.drop p).take k = encN n) : ((T.extract p (p + k)).toList == V.toList) = true := by
  rw [cmp_is hV]; exact decide_eq_true h
theorem cmp_no {T V : ByteArray} {n : Int} {p k : Nat} (hV : V = ⟨(encN n).toArray⟩) (h : ¬ (T.data.toList.drop p).take k = encN n) : ((T.extract p (p + k)).toList == V.toList) = false := by
  rw [cmp_is hV]; exact decide_eq_false h

set_option maxRecDepth 100000 in
set_option maxHeartbeats 2000000 in
theorem decimal_any (g : Nat) (T : ByteArray) (hT : T.size ≤ 140737488355328) (r : Rd) (hr : r.pos ≤ T.size) (most : Int) (m0 : 0 ≤ most) (m1 : most ≤ 2000000000000) (w : World) (hl : Lib w) (hg : 0 < g) (h : RdAt w g T r) :
    Calls Tryd.prog 41 #[.pointer (some ⟨g, 0, none⟩), .int .i64 most] w fun e w' => e = .returned (.tuple #[.int .i64 (decR T.data.toList r.pos most).1, .bool (decR T.data.toList r.pos most).2.2]) ∧ RdAt w' g T ⟨(decR T.data.toList r.pos most).2.1, r.bad⟩ ∧ Wrote g w w' := by
  have c1 : w.cell? ⟨g, 1, none⟩ = some (.int .i64 r.pos) := BAt.cell h 1
  have HL : Hid (Lib w) := hl
  have H0 : Hid (RdAt w g T ⟨r.pos + 0, r.bad⟩) := h
  clear h hl
  generalize r.bad = bad at *
  generalize r.pos = p at *
  go_enter Tryd.func41, Tryd.ntmps41
  go_wp2_with fail
  clear c1
  go_loopw [7] (fun x wr => ∃ (q : Nat) (n : Int), x = .int .i64 n ∧ p ≤ q ∧ q ≤ T.size ∧ 0 ≤ n ∧ n ≤ most * 10 + 9 ∧ scan most (T.data.toList.drop p) 0 = ((scan most (T.data.toList.drop q) n).1, (scan most (T.data.toList.drop q) n).2 + (q - p)) ∧ RdAt wr g T ⟨q, bad⟩ ∧ Wrote g w wr) (fun _ wr => T.size - posN (wr.cell? ⟨g, 1, none⟩))
  case atStart => exact ⟨p, 0, rfl, Nat.le_refl _, hr, by omega, by omega, by rw [Nat.sub_self, Nat.add_zero], H0.out, Kept.refl _ _⟩
  case round =>
    obtain ⟨q, n, rfl, hpq, hj, n0, n1, hsc, hrd, hk⟩ := hrel
    clear H0
    have c1 : wr.cell? ⟨g, 1, none⟩ = some (.int .i64 (q : Int)) := BAt.cell hrd 1
    have c0 : wr.cell? ⟨g, 0, none⟩ = some (.string T) := BAt.cell hrd 0
    have HR : Hid (RdAt wr g T ⟨q, bad⟩) := hrd
    have HSC : Hid (scan most (T.data.toList.drop p) 0 = ((scan most (T.data.toList.drop q) n).1, (scan most (T.data.toList.drop q) n).2 + (q - p))) := hsc
    have HK : Hid (Wrote g w wr) := hk
    clear hsc hrd hk
    by_cases hm : n ≤ most
    · by_cases hp : q < T.size
      · have C := isDigit_any g T hT ⟨q, bad⟩ hp wr HR.out
        by_cases hd : isDig (T[q]'hp)
        · have C1 : Calls Tryd.prog 67 #[.pointer (some ⟨g, 0, none⟩)] wr fun e w' => e = .returned (.bool true) ∧ Same wr w' := by
            refine C.mono ?_
            rintro e w' ⟨rfl, k⟩
            exact ⟨by rw [show decide (isDig T[q]) = true from decide_eq_true hd], k⟩
          have HG : Hid (scan most (T.data.toList.drop q) n = ((scan most (T.data.toList.drop (q + 1)) (n * 10 + (((T[q]'hp).toNat : Int) - 48))).1, (scan most (T.data.toList.drop (q + 1)) (n * 10 + (((T[q]'hp).toNat : Int) - 48))).2 + 1)) := scan_go hp hm hd
          obtain ⟨d0, d1⟩ := hd
          clear C
          go_wp2_with fail
          refine C1.mono ?_
          rintro e w2 ⟨rfl, k2⟩
          have hrd2 : RdAt w2 g T ⟨q, bad⟩ := BAt.kept HR.out k2 (fun h => h)
          have e1 : w2.cell? ⟨g, 1, none⟩ = some (.int .i64 (q : Int)) := BAt.cell hrd2 1
          have e0 : w2.cell? ⟨g, 0, none⟩ = some (.string T) := BAt.cell hrd2 0
          have f2 := BAt.free hrd2
          have HR2 : Hid (RdAt w2 g T ⟨q, bad⟩) := hrd2
          have HK2 : Hid (Wrote g w w2) := HK.out.trans (Same.wrote k2)
          have HC1 : Hid (wr.cell? ⟨g, 1, none⟩ = some (.int .i64 (q : Int))) := c1
          clear hrd2 k2 C1 HR HK c0 c1
          generalize hd' : T[q]'hp = d at *
          have hpi : (q : Int) < T.size := by omega
          have du : (IntKind.u8.wrap ((d.toNat : Int) - 48)) = (d.toNat : Int) - 48 := by
            unfold IntKind.wrap
            rw [show IntKind.u8.bits = 8 from rfl, show IntKind.u8.signed = false from rfl]
            simp
            omega
          go_wp2_with fail
          go_quiet (fail)
          go_wp2_with fail
          have hq2 : RdAt ((w2.drewN nq).setCell ⟨g, 1, none⟩ (.int .i64 ((q : Int) + 1))) g T ⟨q + 1, bad⟩ := BAt.set (BAt.drewN HR2.out nq) 1 (.int .i64 ((q : Int) + 1))
          refine ⟨⟨q + 1, n * 10 + ((d.toNat : Int) - 48), rfl, by omega, by omega, by omega, by omega, ?_, hq2, Wrote.set (Kept.drewN HK2.out nq) 1 _⟩, ?_⟩
          · rw [HSC.out, HG.out]
            dsimp only
            rw [show q + 1 - p = q - p + 1 by omega, Nat.add_assoc, Nat.add_comm 1]
          · rw [BAt.cell hq2 1, HC1.out]
            show T.size - ((q + 1 : Nat) : Int).toNat < T.size - ((q : Nat) : Int).toNat
            omega
        · have C1 : Calls Tryd.prog 67 #[.pointer (some ⟨g, 0, none⟩)] wr fun e w' => e = .returned (.bool false) ∧ Same wr w' := by
            refine C.mono ?_
            rintro e w' ⟨rfl, k⟩
            exact ⟨by rw [show decide (isDig T[q]) = false from decide_eq_false hd], k⟩
          have HST : Hid (scan most (T.data.toList.drop q) n = (n, 0)) := scan_stop (.inr (.inr ⟨hp, hd⟩))
          clear C hd
          go_wp2_with fail
          refine C1.mono ?_
          rintro e w2 ⟨rfl, k2⟩
          have RW : Hid (RdAt w2 g T ⟨q, bad⟩) := BAt.kept HR.out k2 (fun h => h)
          have KW : Hid (Wrote g w w2) := HK.out.trans (Same.wrote k2)
          clear k2 C1 HR HK c0 c1
          have HSE : Hid (decR T.data.toList p most = if (T.data.toList.drop p).take (encN n).length = encN n then (n, p + (encN n).length, true) else (0, q, false)) := decR_of hpq (by rw [HSC.out, HST.out, Nat.zero_add])
          go_wp2_with fail
          refine (itoa_any n (by omega) (by omega) _ (HL.out.hidden hg KW.out)).mono ?_
          rintro e w3 ⟨rfl, k3⟩
          have rd3 : RdAt w3 g T ⟨q, bad⟩ := BAt.kept RW.out k3 (fun h => h)
          have KK : Hid (Wrote g w w3) := KW.out.trans (Same.wrote k3)
          have g0 : w3.cell? ⟨g, 0, none⟩ = some (.string T) := BAt.cell rd3 0
          have g1 : w3.cell? ⟨g, 1, none⟩ = some (.int .i64 (q : Int)) := BAt.cell rd3 1
          have g2 := BAt.free rd3
          have RR : Hid (RdAt w3 g T ⟨q, bad⟩) := rd3
          have eD : (encN n).length = (⟨(Go.Lib.itoa n).toArray⟩ : ByteArray).size + 1 := enc_size n
          have sD := Go.Lib.itoa_length_le n (by omega) (by omega)
          have HV : Hid ((⟨(Go.Lib.itoa n).toArray⟩ : ByteArray) ++ ⟨#[59]⟩ = ⟨(encN n).toArray⟩) := enc_one n
          have sL : (⟨(Go.Lib.itoa n).toArray⟩ : ByteArray).size ≤ 21 := by rw [Go.Lib.size_eq]; exact sD
          clear k3 rd3 HSC HST RW KW sD
          rw [eD] at HSE
          generalize (⟨(Go.Lib.itoa n).toArray⟩ : ByteArray) = D at *
          by_cases hc : (T.data.toList.drop p).take (D.size + 1) = encN n
          · have hlen : p + (D.size + 1) ≤ T.size := take_fits (by rw [hc, eD]) hr
            have HE : Hid (decR T.data.toList p most = (n, p + (D.size + 1), true)) := HSE.out.trans (if_pos hc)
            have hcmp : ((T.extract p (p + (D.size + 1))).toList == (D ++ ⟨#[59]⟩).toList) = true := cmp_yes HV.out hc
            have t1 : decide ((T.size : Int) < (p : Int) + ((D.size : Int) + 1)) = false := decide_eq_false (by omega)
            clear hc HSE
            go_wp2_with fail
            go_ret2
            rw [HE.out]
            exact ⟨rfl, BAt.set RR.out 1 (.int .i64 ((p : Int) + ((D.size : Int) + 1))), Wrote.set KK.out 1 _⟩
          · have HE : Hid (decR T.data.toList p most = (0, q, false)) := HSE.out.trans (if_neg hc)
            by_cases hlen : p + (D.size + 1) ≤ T.size
            · have hcmp : ((T.extract p (p + (D.size + 1))).toList == (D ++ ⟨#[59]⟩).toList) = false := cmp_no HV.out hc
              have t1 : decide ((T.size : Int) < (p : Int) + ((D.size : Int) + 1)) = false := decide_eq_false (by omega)
              clear hc HSE
              go_wp2_with fail
              go_ret2
              rw [HE.out]
              exact ⟨rfl, RR.out, KK.out⟩
            · have t1 : decide ((T.size : Int) < (p : Int) + ((D.size : Int) + 1)) = true := decide_eq_true (by omega)
              clear hc HSE
              go_wp2_with fail
              go_ret2
              rw [HE.out]
              exact ⟨rfl, RR.out, KK.out⟩
      · have C1 := isDigit_end g T hT ⟨q, bad⟩ hp wr HR.out
        have HST : Hid (scan most (T.data.toList.drop q) n = (n, 0)) := scan_stop (.inr (.inl hp))
        clear hp
        go_wp2_with fail
        refine C1.mono ?_
        rintro e w2 ⟨rfl, k2⟩
        have RW : Hid (RdAt w2 g T ⟨q, bad⟩) := BAt.kept HR.out k2 (fun h => h)
        have KW : Hid (Wrote g w w2) := HK.out.trans (Same.wrote k2)
        clear k2 C1 HR HK c0 c1
        have HSE : Hid (decR T.data.toList p most = if (T.data.toList.drop p).take (encN n).length = encN n then (n, p + (encN n).length, true) else (0, q, false)) := decR_of hpq (by rw [HSC.out, HST.out, Nat.zero_add])
        go_wp2_with fail
        refine (itoa_any n (by omega) (by omega) _ (HL.out.hidden hg KW.out)).mono ?_
        rintro e w3 ⟨rfl, k3⟩
        have rd3 : RdAt w3 g T ⟨q, bad⟩ := BAt.kept RW.out k3 (fun h => h)
        have KK : Hid (Wrote g w w3) := KW.out.trans (Same.wrote k3)
        have g0 : w3.cell? ⟨g, 0, none⟩ = some (.string T) := BAt.cell rd3 0
        have g1 : w3.cell? ⟨g, 1, none⟩ = some (.int .i64 (q : Int)) := BAt.cell rd3 1
        have g2 := BAt.free rd3
        have RR : Hid (RdAt w3 g T ⟨q, bad⟩) := rd3
        have eD : (encN n).length = (⟨(Go.Lib.itoa n).toArray⟩ : ByteArray).size + 1 := enc_size n
        have sD := Go.Lib.itoa_length_le n (by omega) (by omega)
        have HV : Hid ((⟨(Go.Lib.itoa n).toArray⟩ : ByteArray) ++ ⟨#[59]⟩ = ⟨(encN n).toArray⟩) := enc_one n
        have sL : (⟨(Go.Lib.itoa n).toArray⟩ : ByteArray).size ≤ 21 := by rw [Go.Lib.size_eq]; exact sD
        clear k3 rd3 HSC HST RW KW sD
        rw [eD] at HSE
        generalize (⟨(Go.Lib.itoa n).toArray⟩ : ByteArray) = D at *
        by_cases hc : (T.data.toList.drop p).take (D.size + 1) = encN n
        · have hlen : p + (D.size + 1) ≤ T.size := take_fits (by rw [hc, eD]) hr
          have HE : Hid (decR T.data.toList p most = (n, p + (D.size + 1), true)) := HSE.out.trans (if_pos hc)
          have hcmp : ((T.extract p (p + (D.size + 1))).toList == (D ++ ⟨#[59]⟩).toList) = true := cmp_yes HV.out hc
          have t1 : decide ((T.size : Int) < (p : Int) + ((D.size : Int) + 1)) = false := decide_eq_false (by omega)
          clear hc HSE
          go_wp2_with fail
          go_ret2
          rw [HE.out]
          exact ⟨rfl, BAt.set RR.out 1 (.int .i64 ((p : Int) + ((D.size : Int) + 1))), Wrote.set KK.out 1 _⟩
        · have HE : Hid (decR T.data.toList p most = (0, q, false)) := HSE.out.trans (if_neg hc)
          by_cases hlen : p + (D.size + 1) ≤ T.size
          · have hcmp : ((T.extract p (p + (D.size + 1))).toList == (D ++ ⟨#[59]⟩).toList) = false := cmp_no HV.out hc
            have t1 : decide ((T.size : Int) < (p : Int) + ((D.size : Int) + 1)) = false := decide_eq_false (by omega)
            clear hc HSE
            go_wp2_with fail
            go_ret2
            rw [HE.out]
            exact ⟨rfl, RR.out, KK.out⟩
          · have t1 : decide ((T.size : Int) < (p : Int) + ((D.size : Int) + 1)) = true := decide_eq_true (by omega)
            clear hc HSE
            go_wp2_with fail
            go_ret2
            rw [HE.out]
            exact ⟨rfl, RR.out, KK.out⟩
    · have HST : Hid (scan most (T.data.toList.drop q) n = (n, 0)) := scan_stop (.inl (by omega))
      have hm' : decide (n ≤ most) = false := decide_eq_false hm
      have RW : Hid (RdAt wr g T ⟨q, bad⟩) := HR.out
      have KW : Hid (Wrote g w wr) := HK.out
      clear HR HK c0 c1
      have HSE : Hid (decR T.data.toList p most = if (T.data.toList.drop p).take (encN n).length = encN n then (n, p + (encN n).length, true) else (0, q, false)) := decR_of hpq (by rw [HSC.out, HST.out, Nat.zero_add])
      go_wp2_with fail
      refine (itoa_any n (by omega) (by omega) _ (HL.out.hidden hg KW.out)).mono ?_
      rintro e w3 ⟨rfl, k3⟩
      have rd3 : RdAt w3 g T ⟨q, bad⟩ := BAt.kept RW.out k3 (fun h => h)
      have KK : Hid (Wrote g w w3) := KW.out.trans (Same.wrote k3)
      have g0 : w3.cell? ⟨g, 0, none⟩ = some (.string T) := BAt.cell rd3 0
      have g1 : w3.cell? ⟨g, 1, none⟩ = some (.int .i64 (q : Int)) := BAt.cell rd3 1
      have g2 := BAt.free rd3
      have RR : Hid (RdAt w3 g T ⟨q, bad⟩) := rd3
      have eD : (encN n).length = (⟨(Go.Lib.itoa n).toArray⟩ : ByteArray).size + 1 := enc_size n
      have sD := Go.Lib.itoa_length_le n (by omega) (by omega)
      have HV : Hid ((⟨(Go.Lib.itoa n).toArray⟩ : ByteArray) ++ ⟨#[59]⟩ = ⟨(encN n).toArray⟩) := enc_one n
      have sL : (⟨(Go.Lib.itoa n).toArray⟩ : ByteArray).size ≤ 21 := by rw [Go.Lib.size_eq]; exact sD
      clear k3 rd3 HSC HST RW KW sD
      rw [eD] at HSE
      generalize (⟨(Go.Lib.itoa n).toArray⟩ : ByteArray) = D at *
      by_cases hc : (T.data.toList.drop p).take (D.size + 1) = encN n
      · have hlen : p + (D.size + 1) ≤ T.size := take_fits (by rw [hc, eD]) hr
        have HE : Hid (decR T.data.toList p most = (n, p + (D.size + 1), true)) := HSE.out.trans (if_pos hc)
        have hcmp : ((T.extract p (p + (D.size + 1))).toList == (D ++ ⟨#[59]⟩).toList) = true := cmp_yes HV.out hc
        have t1 : decide ((T.size : Int) < (p : Int) + ((D.size : Int) + 1)) = false := decide_eq_false (by omega)
        clear hc HSE
        go_wp2_with fail
        go_ret2
        rw [HE.out]
        exact ⟨rfl, BAt.set RR.out 1 (.int .i64 ((p : Int) + ((D.size : Int) + 1))), Wrote.set KK.out 1 _⟩
      · have HE : Hid (decR T.data.toList p most = (0, q, false)) := HSE.out.trans (if_neg hc)
        by_cases hlen : p + (D.size + 1) ≤ T.size
        · have hcmp : ((T.extract p (p + (D.size + 1))).toList == (D ++ ⟨#[59]⟩).toList) = false := cmp_no HV.out hc
          have t1 : decide ((T.size : Int) < (p : Int) + ((D.size : Int) + 1)) = false := decide_eq_false (by omega)
          clear hc HSE
          go_wp2_with fail
          go_ret2
          rw [HE.out]
          exact ⟨rfl, RR.out, KK.out⟩
        · have t1 : decide ((T.size : Int) < (p : Int) + ((D.size : Int) + 1)) = true := decide_eq_true (by omega)
          clear hc HSE
          go_wp2_with fail
          go_ret2
          rw [HE.out]
          exact ⟨rfl, RR.out, KK.out⟩

set_option maxRecDepth 100000 in
set_option maxHeartbeats 1000000 in
theorem number_any (g : Nat) (T : ByteArray) (hT : T.size ≤ 140737488355328) (r : Rd) (hr : r.pos ≤ T.size) (least most : Int) (m0 : 0 ≤ most) (m1 : most ≤ 2000000000000) (w : World) (hl : Lib w) (hg : 0 < g) (h : RdAt w g T r) :
    Calls Tryd.prog 19 #[.pointer (some ⟨g, 0, none⟩), .int .i64 least, .int .i64 most] w fun e w' => e = .returned (.int .i64 (numR T.data.toList least most r).1) ∧ RdAt w' g T (numR T.data.toList least most r).2 ∧ Wrote g w w' := by
  have C := decimal_any g T hT r hr most m0 m1 w hl hg h
  have c2 : w.cell? ⟨g, 2, none⟩ = some (.bool r.bad) := BAt.cell h 2
  have H0 : Hid (RdAt w g T r) := h
  unfold numR
  clear h hl hT hr m0 m1
  by_cases hb : r.bad = true
  · rw [if_pos hb]
    rw [hb] at c2
    clear hb C
    go_enter Tryd.func19, Tryd.ntmps19
    go_wp2_with fail
    go_ret
    exact ⟨rfl, H0.out, Kept.refl _ _⟩
  · rw [if_neg hb]
    have hb' : r.bad = false := by simpa using hb
    rw [hb'] at c2 C
    clear hb hb' H0
    generalize (decR T.data.toList r.pos most).1 = n at *
    generalize (decR T.data.toList r.pos most).2.1 = q at *
    by_cases hgd : (decR T.data.toList r.pos most).2.2 = true
    · rw [hgd] at C ⊢
      clear hgd
      by_cases h1 : least ≤ n
      · by_cases h2 : n ≤ most
        · rw [if_pos ⟨rfl, h1, h2⟩]
          have h1' : decide (n < least) = false := decide_eq_false (by omega)
          have h2' : decide (most < n) = false := decide_eq_false (by omega)
          clear h1 h2
          go_enter Tryd.func19, Tryd.ntmps19
          go_wp2_with fail
          refine C.mono ?_
          rintro e w2 ⟨rfl, hr2, k2⟩
          clear C
          go_wp2_with fail
          go_ret
          exact ⟨rfl, hr2, k2⟩
        · rw [if_neg (fun hh => h2 hh.2.2)]
          have h1' : decide (n < least) = false := decide_eq_false (by omega)
          have h2' : decide (most < n) = true := decide_eq_true (by omega)
          clear h1 h2
          go_enter Tryd.func19, Tryd.ntmps19
          go_wp2_with fail
          refine C.mono ?_
          rintro e w2 ⟨rfl, hr2, k2⟩
          have d2 : w2.cell? ⟨g, 2, none⟩ = some (.bool false) := BAt.cell hr2 2
          have f2 := BAt.free hr2
          have R2 : Hid (RdAt w2 g T ⟨q, false⟩) := hr2
          clear C hr2
          go_wp2_with fail
          go_ret
          exact ⟨rfl, BAt.set R2.out 2 (.bool true), Wrote.set k2 2 _⟩
      · rw [if_neg (fun hh => h1 hh.2.1)]
        have h1' : decide (n < least) = true := decide_eq_true (by omega)
        clear h1
        go_enter Tryd.func19, Tryd.ntmps19
        go_wp2_with fail
        refine C.mono ?_
        rintro e w2 ⟨rfl, hr2, k2⟩
        have d2 : w2.cell? ⟨g, 2, none⟩ = some (.bool false) := BAt.cell hr2 2
        have f2 := BAt.free hr2
        have R2 : Hid (RdAt w2 g T ⟨q, false⟩) := hr2
        clear C hr2
        go_wp2_with fail
        go_ret
        exact ⟨rfl, BAt.set R2.out 2 (.bool true), Wrote.set k2 2 _⟩
    · rw [if_neg (fun hh => hgd hh.1)]
      have hg' : (decR T.data.toList r.pos most).2.2 = false := by simpa using hgd
      rw [hg'] at C
      clear hgd hg'
      go_enter Tryd.func19, Tryd.ntmps19
      go_wp2_with fail
      refine C.mono ?_
      rintro e w2 ⟨rfl, hr2, k2⟩
      have d2 : w2.cell? ⟨g, 2, none⟩ = some (.bool false) := BAt.cell hr2 2
      have f2 := BAt.free hr2
      have R2 : Hid (RdAt w2 g T ⟨q, false⟩) := hr2
      clear C hr2
      go_wp2_with fail
      go_ret
      exact ⟨rfl, BAt.set R2.out 2 (.bool true), Wrote.set k2 2 _⟩

set_option maxRecDepth 100000 in
set_option maxHeartbeats 1000000 in
theorem flag_any (g : Nat) (T : ByteArray) (hT : T.size ≤ 140737488355328) (r : Rd) (hr : r.pos ≤ T.size) (w : World) (hl : Lib w) (hg : 0 < g) (h : RdAt w g T r) :
    Calls Tryd.prog 42 #[.pointer (some ⟨g, 0, none⟩)] w fun e w' => e = .returned (.bool (flagB (numR T.data.toList 0 1 r).1)) ∧ RdAt w' g T (numR T.data.toList 0 1 r).2 ∧ Wrote g w w' := by
  have C := number_any g T hT r hr 0 1 (by omega) (by omega) w hl hg h
  unfold flagB
  generalize (numR T.data.toList 0 1 r).1 = n at *
  generalize (numR T.data.toList 0 1 r).2 = r2 at *
  clear h hl hT hr
  go_enter Tryd.func42, Tryd.ntmps42
  go_wp2_with fail
  refine C.mono ?_
  rintro e w2 ⟨rfl, hr2, k2⟩
  clear C
  go_wp2_with fail
  go_ret
  refine ⟨?_, hr2, k2⟩
  simp
  rw [Bool.eq_iff_iff]
  simp

end Go.Proofs.YtpfahgogjeignabDoor
