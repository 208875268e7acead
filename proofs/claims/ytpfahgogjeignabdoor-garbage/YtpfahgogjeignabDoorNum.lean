/-
  A cluster's text, in plain words: numbers as they are written, how they are read; what the library writes of a number.
-/
import Derived.Test.YtpfahgogjeignabDoorMem
import Derived.Lib.ItoaNum
import Derived.Lib.ItoaLen
import Derived.Lib.AppendIntMem
import Derived.Shelf.LaysM
import Derived.Shelf.Strconv.Itoa3
set_option linter.unusedVariables false
set_option linter.unusedSimpArgs false
namespace Go.Proofs.YtpfahgogjeignabDoor
open Go.Lib

/-- A number as it is written: its digits, the mark behind them. -/
def encN (n : Int) : List UInt8 := itoa n ++ [59]
def encL : List Int → List UInt8
  | [] => []
  | n :: l => encN n ++ encL l
theorem encL_append (a b : List Int) : encL (a ++ b) = encL a ++ encL b := by
  induction a with
  | nil => rfl
  | cons x l ih => show encN x ++ encL (l ++ b) = (encN x ++ encL l) ++ encL b; rw [ih, List.append_assoc]
theorem encN_pos (n : Int) : 0 < (encN n).length := by simp [encN]
theorem encN_le (n : Int) (h0 : -9223372036854775808 ≤ n) (h1 : n ≤ 9223372036854775807) : (encN n).length ≤ 22 := by
  have := itoa_length_le n h0 h1
  simp only [encN, List.length_append, List.length_cons, List.length_nil]
  omega
theorem encL_le : ∀ l : List Int, (∀ n, n ∈ l → -9223372036854775808 ≤ n ∧ n ≤ 9223372036854775807) → (encL l).length ≤ 22 * l.length
  | [], _ => Nat.le_refl _
  | n :: l, h => by
    have h1 := h n (List.mem_cons_self ..)
    have h2 := encL_le l (fun x hx => h x (List.mem_cons_of_mem _ hx))
    have h3 := encN_le n h1.1 h1.2
    show (encN n ++ encL l).length ≤ 22 * (l.length + 1)
    rw [List.length_append]
    omega

/-- Is it a digit. -/
abbrev isDig (d : UInt8) : Prop := 48 ≤ d.toNat ∧ d.toNat ≤ 57
/-- Digits are read, until there is none or the number is above most: the number, and how many. -/
def scan (most : Int) : List UInt8 → Int → Int × Nat
  | [], n => (n, 0)
  | d :: l, n => if n ≤ most ∧ isDig d then ((scan most l (n * 10 + ((d.toNat : Int) - 48))).1, (scan most l (n * 10 + ((d.toNat : Int) - 48))).2 + 1) else (n, 0)
theorem scan_le (most : Int) : ∀ (l : List UInt8) (n : Int), (scan most l n).2 ≤ l.length
  | [], _ => Nat.le_refl _
  | d :: l, n => by
    unfold scan
    split
    · have := scan_le most l (n * 10 + ((d.toNat : Int) - 48))
      simp only [List.length_cons]
      omega
    · simp
theorem scan_bd (most : Int) (h0 : 0 ≤ most) : ∀ (l : List UInt8) (n : Int), 0 ≤ n → n ≤ most * 10 + 9 → 0 ≤ (scan most l n).1 ∧ (scan most l n).1 ≤ most * 10 + 9
  | [], n, a, b => ⟨a, b⟩
  | d :: l, n, a, b => by
    unfold scan
    split
    · rename_i h
      obtain ⟨h1, h2, h3⟩ := h
      exact scan_bd most h0 l _ (by omega) (by omega)
    · exact ⟨a, b⟩
/-- What is read of a number's digits with a mark behind them. -/
theorem scan_digits (most : Int) (rest : List UInt8) : ∀ (l : List UInt8) (n : Int), (∀ c, c ∈ l → isDig c) → 0 ≤ n → l.foldl (fun (a : Int) c => a * 10 + ((c.toNat : Int) - 48)) n ≤ most →
    scan most (l ++ 59 :: rest) n = (l.foldl (fun (a : Int) c => a * 10 + ((c.toNat : Int) - 48)) n, l.length)
  | [], n, _, _, _ => by
    show scan most (59 :: rest) n = (n, 0)
    unfold scan
    rw [if_neg]
    rintro ⟨_, h⟩
    revert h
    decide
  | d :: l, n, hd, h0, hm => by
    have hdd := hd d (List.mem_cons_self ..)
    have hd' := hdd
    obtain ⟨h1, h2⟩ := hdd
    have mono : ∀ (l : List UInt8) (n : Int), (∀ c, c ∈ l → isDig c) → 0 ≤ n → n ≤ l.foldl (fun (a : Int) c => a * 10 + ((c.toNat : Int) - 48)) n := by
      intro l
      induction l with
      | nil => intro n _ _; exact Int.le_refl _
      | cons c l ih =>
        intro n hc hn
        have := hc c (List.mem_cons_self ..)
        obtain ⟨q1, q2⟩ := this
        have := ih (n * 10 + ((c.toNat : Int) - 48)) (fun x hx => hc x (List.mem_cons_of_mem _ hx)) (by omega)
        show n ≤ l.foldl _ (n * 10 + ((c.toNat : Int) - 48))
        omega
    have hrest : ∀ c, c ∈ l → isDig c := fun x hx => hd x (List.mem_cons_of_mem _ hx)
    have hm' : l.foldl (fun (a : Int) c => a * 10 + ((c.toNat : Int) - 48)) (n * 10 + ((d.toNat : Int) - 48)) ≤ most := hm
    have hn := mono l _ hrest (show 0 ≤ n * 10 + ((d.toNat : Int) - 48) by omega)
    have ih := scan_digits most rest l (n * 10 + ((d.toNat : Int) - 48)) hrest (by omega) hm'
    show scan most (d :: (l ++ 59 :: rest)) n = _
    unfold scan
    rw [if_pos ⟨by omega, hd'⟩, ih]
    rfl
theorem digit_nat {k : Nat} (h : k < 10) : (UInt8.ofNat (48 + k)).toNat = 48 + k := by
  simp [UInt8.toNat_ofNat']
  omega
theorem dec_digs (u : Nat) : ∀ c, c ∈ decDigits u → isDig c := by
  induction u using Nat.strongRecOn with
  | _ u ih =>
    rw [decDigits]
    split
    · rename_i h
      intro c hc
      have : c = UInt8.ofNat (48 + u) := by simpa using hc
      rw [this]
      unfold isDig
      rw [digit_nat h]
      omega
    · rename_i h
      intro c hc
      rcases List.mem_append.1 hc with hc | hc
      · exact ih (u / 10) (by omega) c hc
      · have : c = UInt8.ofNat (48 + u % 10) := by simpa using hc
        rw [this]
        unfold isDig
        rw [digit_nat (by omega)]
        omega
theorem dec_val (u : Nat) : (decDigits u).foldl (fun (a : Int) c => a * 10 + ((c.toNat : Int) - 48)) 0 = (u : Int) := by
  induction u using Nat.strongRecOn with
  | _ u ih =>
    rw [decDigits]
    split
    · rename_i h
      show (0 : Int) * 10 + (((UInt8.ofNat (48 + u)).toNat : Int) - 48) = u
      rw [digit_nat h]
      omega
    · rename_i h
      rw [List.foldl_append, ih (u / 10) (by omega)]
      show ((u / 10 : Nat) : Int) * 10 + (((UInt8.ofNat (48 + u % 10)).toNat : Int) - 48) = u
      rw [digit_nat (by omega)]
      omega
theorem scan_enc (most n : Int) (h0 : 0 ≤ n) (h1 : n ≤ most) (rest : List UInt8) : scan most (encN n ++ rest) 0 = (n, (itoa n).length) := by
  obtain ⟨u, rfl⟩ : ∃ u : Nat, n = u := ⟨n.toNat, by omega⟩
  unfold encN
  rw [itoa_nonneg, List.append_assoc]
  have := scan_digits most rest (decDigits u) 0 (dec_digs u) (Int.le_refl _) (by rw [dec_val]; exact h1)
  rw [dec_val] at this
  exact this

/-- What decimal answers, and where it stops. -/
def decR (t : List UInt8) (at_ : Nat) (most : Int) : Int × Nat × Bool :=
  if (t.drop at_).take (encN (scan most (t.drop at_) 0).1).length = encN (scan most (t.drop at_) 0).1 then ((scan most (t.drop at_) 0).1, at_ + (encN (scan most (t.drop at_) 0).1).length, true)
  else (0, at_ + (scan most (t.drop at_) 0).2, false)
/-- Where a reader stands. -/
structure Rd where
  pos : Nat
  bad : Bool
/-- What number answers, and where it leaves the reader. -/
def numR (t : List UInt8) (least most : Int) (r : Rd) : Int × Rd :=
  if r.bad then (least, r)
  else if (decR t r.pos most).2.2 = true ∧ least ≤ (decR t r.pos most).1 ∧ (decR t r.pos most).1 ≤ most then ((decR t r.pos most).1, ⟨(decR t r.pos most).2.1, false⟩)
  else (least, ⟨(decR t r.pos most).2.1, true⟩)
theorem decR_pos (t : List UInt8) (at_ : Nat) (most : Int) (h : at_ ≤ t.length) : (decR t at_ most).2.1 ≤ t.length := by
  unfold decR
  split
  · rename_i e
    have := congrArg List.length e
    rw [List.length_take, List.length_drop] at this
    show at_ + _ ≤ _
    omega
  · have := scan_le most (t.drop at_) 0
    rw [List.length_drop] at this
    show at_ + _ ≤ _
    omega
theorem numR_pos (t : List UInt8) (least most : Int) (r : Rd) (h : r.pos ≤ t.length) : (numR t least most r).2.pos ≤ t.length := by
  have := decR_pos t r.pos most h
  unfold numR
  split
  · exact h
  · split
    · exact this
    · exact this
theorem numR_bd (t : List UInt8) (least most : Int) (r : Rd) (h : least ≤ most) : least ≤ (numR t least most r).1 ∧ (numR t least most r).1 ≤ most := by
  unfold numR
  split
  · exact ⟨Int.le_refl _, h⟩
  · split
    · rename_i e
      exact e.2
    · exact ⟨Int.le_refl _, h⟩
/-- So much is left to read, and it is good. -/
structure Rest (t : List UInt8) (l : List Int) (r : Rd) : Prop where
  good : r.bad = false
  left : t.drop r.pos = encL l
  pos : r.pos ≤ t.length
theorem Rest.read {t : List UInt8} {n : Int} {l : List Int} {r : Rd} (h : Rest t (n :: l) r) {least most : Int} (n0 : 0 ≤ n) (h0 : least ≤ n) (h1 : n ≤ most) : (numR t least most r).1 = n ∧ Rest t l (numR t least most r).2 := by
  have hs := scan_enc most n n0 h1 (encL l)
  have hl : t.drop r.pos = encN n ++ encL l := h.left
  have hlen := congrArg List.length hl
  rw [List.length_drop, List.length_append] at hlen
  have hp := h.pos
  have hd : decR t r.pos most = (n, r.pos + (encN n).length, true) := by
    unfold decR
    rw [hl, hs]
    dsimp only
    rw [if_pos (List.take_left ..)]
  unfold numR
  rw [if_neg (by rw [h.good]; simp), hd]
  dsimp only
  rw [if_pos ⟨rfl, h0, h1⟩]
  refine ⟨rfl, rfl, ?_, ?_⟩
  · show t.drop (r.pos + _) = _
    rw [← List.drop_drop, hl, List.drop_left]
  · show r.pos + _ ≤ _
    omega
theorem Rest.done {t : List UInt8} {r : Rd} (h : Rest t [] r) : r.pos = t.length := by
  have := congrArg List.length h.left
  have := h.pos
  simp [encL] at *
  omega
end Go.Proofs.YtpfahgogjeignabDoor

namespace Go.Proofs.YtpfahgogjeignabDoor

/-- No cluster as yet. -/
def PC.zero : PC := { lease := 0, window := 0, count := 0, rate := fun _ => 0, burst := fun _ => 0, now := 0, link := fun _ => 0, up := fun _ => false, epoch := fun _ => 0, til := fun _ => 0, alone := fun _ => false, lev := fun _ _ => 0, win := fun _ _ => 0, holder := 0, wepoch := 0, wtil := 0, solo := false }
/-- A cluster that is being read, and where the reader stands. -/
abbrev LS := PC × Rd
def PC.setTen (s : PC) (i : Nat) (r b : Int) : PC := { s with rate := upd s.rate i r, burst := upd s.burst i b }
def PC.setTerms (s : PC) (a b c : Int) : PC := { s with lease := a, window := b, count := c }
def PC.setNow (s : PC) (a : Int) : PC := { s with now := a }
def PC.setLink (s : PC) (i : Nat) (a : Int) : PC := { s with link := upd s.link i a }
def PC.setWit (s : PC) (h t e : Int) (o : Bool) : PC := { s with holder := h, wtil := t, wepoch := e, solo := o }
def PC.setLev (s : PC) (i k : Nat) (a : Int) : PC := { s with lev := upd s.lev i (upd (s.lev i) k a) }
def PC.setWn (s : PC) (i k : Nat) (a : Int) : PC := { s with win := upd s.win i (upd (s.win i) k a) }
def PC.setOwn (s : PC) (i : Nat) (u : Bool) (t e : Int) (o : Bool) : PC := { s with up := upd s.up i u, til := upd s.til i t, epoch := upd s.epoch i e, alone := upd s.alone i o }
def leastB (w : Int) : Int := if 1 < w then w else 1
def tenStep (t : List UInt8) (least : Int) (i : Nat) (x : LS) : LS :=
  (x.1.setTen i (numR t 0 1000 x.2).1 (numR t least 1000000 (numR t 0 1000 x.2).2).1, (numR t least 1000000 (numR t 0 1000 x.2).2).2)
def tens (t : List UInt8) (least : Int) : Nat → LS → LS
  | 0, x => x
  | i + 1, x => tenStep t least i (tens t least i x)
def headR (t : List UInt8) (x : LS) : LS :=
  (x.1.setTerms (numR t 1 1000 x.2).1 (numR t 0 1000000 (numR t 1 1000 x.2).2).1 (numR t 1 4 (numR t 0 1000000 (numR t 1 1000 x.2).2).2).1, (numR t 1 4 (numR t 0 1000000 (numR t 1 1000 x.2).2).2).2)
def termsR (t : List UInt8) (x : LS) : LS := tens t (leastB (headR t x).1.window) (headR t x).1.count.toNat (headR t x)
def nowR (t : List UInt8) (x : LS) : LS := (x.1.setNow (numR t 0 1000000000000 x.2).1, (numR t 0 1000000000000 x.2).2)
def links (t : List UInt8) : Nat → LS → LS
  | 0, x => x
  | i + 1, x => ((links t i x).1.setLink i (numR t 0 2 (links t i x).2).1, (numR t 0 2 (links t i x).2).2)
def flagB (n : Int) : Bool := decide (n = 1)
def wit3 (t : List UInt8) (h : Int) (s : PC) (r : Rd) : LS :=
  (s.setWit h (numR t s.lease (s.now + s.lease) r).1 (numR t 1 (numR t s.lease (s.now + s.lease) r).1 (numR t s.lease (s.now + s.lease) r).2).1 (flagB (numR t 0 1 (numR t 1 (numR t s.lease (s.now + s.lease) r).1 (numR t s.lease (s.now + s.lease) r).2).2).1),
    (numR t 0 1 (numR t 1 (numR t s.lease (s.now + s.lease) r).1 (numR t s.lease (s.now + s.lease) r).2).2).2)
def witR (t : List UInt8) (x : LS) : LS :=
  if (numR t 0 2 x.2).1 = 0 then (x.1.setWit (-1) x.1.wtil x.1.wepoch x.1.solo, (numR t 0 2 x.2).2) else wit3 t ((numR t 0 2 x.2).1 - 1) x.1 (numR t 0 2 x.2).2
def levs (t : List UInt8) (i : Nat) : Nat → LS → LS
  | 0, x => x
  | k + 1, x => ((levs t i k x).1.setLev i k (numR t 0 ((levs t i k x).1.burst k - (levs t i k x).1.window) (levs t i k x).2).1, (numR t 0 ((levs t i k x).1.burst k - (levs t i k x).1.window) (levs t i k x).2).2)
def wins (t : List UInt8) (i : Nat) : Nat → LS → LS
  | 0, x => x
  | k + 1, x => ((wins t i k x).1.setWn i k (numR t 0 (wins t i k x).1.window (wins t i k x).2).1, (numR t 0 (wins t i k x).1.window (wins t i k x).2).2)
def ownR (t : List UInt8) (i : Nat) (x : LS) : LS :=
  (x.1.setOwn i true (numR t 0 x.1.wtil x.2).1 (numR t 0 x.1.wepoch (numR t 0 x.1.wtil x.2).2).1 (flagB (numR t 0 1 (numR t 0 x.1.wepoch (numR t 0 x.1.wtil x.2).2).2).1), (numR t 0 1 (numR t 0 x.1.wepoch (numR t 0 x.1.wtil x.2).2).2).2)
def upR (t : List UInt8) (i : Nat) (y : LS) : LS :=
  if flagB (numR t 0 1 y.2).1 then wins t i y.1.count.toNat (ownR t i (y.1, (numR t 0 1 y.2).2)) else (y.1.setOwn i false (y.1.til i) (y.1.epoch i) (y.1.alone i), (numR t 0 1 y.2).2)
def gateR (t : List UInt8) (i : Nat) (x : LS) : LS := upR t i (levs t i x.1.count.toNat x)
def loadR (t : List UInt8) : LS := gateR t 1 (gateR t 0 (witR t (links t 3 (nowR t (termsR t (PC.zero, ⟨0, false⟩))))))

/-! ### bounds, whatever the text -/
/-- What has been read keeps within the bounds. -/
structure Half (s : PC) (n : Nat) : Prop where
  rate : ∀ k, 0 ≤ s.rate k ∧ s.rate k ≤ 1000
  burst : ∀ k, 0 ≤ s.burst k ∧ s.burst k ≤ 1000000
  fits : ∀ k, k < n → s.window ≤ s.burst k
  lev : ∀ i k, 0 ≤ s.lev i k ∧ s.lev i k ≤ 1000000
  win : ∀ i k, 0 ≤ s.win i k ∧ s.win i k ≤ s.window
  head : 1 ≤ s.lease ∧ s.lease ≤ 1000 ∧ 0 ≤ s.window ∧ s.window ≤ 1000000 ∧ 1 ≤ s.count ∧ s.count ≤ 4
  now : 0 ≤ s.now ∧ s.now ≤ 1000000000000
  wit : 0 ≤ s.wtil ∧ s.wtil ≤ 1000000001000 ∧ 0 ≤ s.wepoch ∧ s.wepoch ≤ 1000000001000
theorem Half.ok {s : PC} (h : Half s s.count.toNat) : s.Ok :=
  ⟨h.head.1, h.head.2.1, h.head.2.2.1, h.head.2.2.2.1, h.head.2.2.2.2.1, h.head.2.2.2.2.2, fun k => (h.rate k).1, fun k => (h.rate k).2, fun k => (h.burst k).1, fun k => (h.burst k).2,
    fun k hk => h.fits k (by omega), h.now.1, h.now.2, fun i k => (h.lev i k).1, fun i k => (h.lev i k).2, fun i k => (h.win i k).1, fun i k => (h.win i k).2⟩
theorem upd_bd {f : Nat → Int} {a b : Int} (h : ∀ k, a ≤ f k ∧ f k ≤ b) (i : Nat) {v : Int} (hv : a ≤ v ∧ v ≤ b) : ∀ k, a ≤ upd f i v k ∧ upd f i v k ≤ b := by
  intro k
  unfold upd
  split
  · exact hv
  · exact h k
theorem upd2_bd {f : Nat → Nat → Int} {a b : Int} (h : ∀ i k, a ≤ f i k ∧ f i k ≤ b) (i k : Nat) {v : Int} (hv : a ≤ v ∧ v ≤ b) : ∀ j q, a ≤ upd f i (upd (f i) k v) j q ∧ upd f i (upd (f i) k v) j q ≤ b := by
  intro j q
  unfold upd
  split
  · dsimp only
    split
    · exact hv
    · exact h i q
  · exact h j q
theorem head_half (t : List UInt8) (r : Rd) : Half (headR t (PC.zero, r)).1 0 := by
  have h1 := numR_bd t 1 1000 r (by omega)
  have h2 := numR_bd t 0 1000000 (numR t 1 1000 r).2 (by omega)
  have h3 := numR_bd t 1 4 (numR t 0 1000000 (numR t 1 1000 r).2).2 (by omega)
  exact ⟨fun _ => ⟨Int.le_refl _, by show (0 : Int) ≤ _; omega⟩, fun _ => ⟨Int.le_refl _, by show (0 : Int) ≤ _; omega⟩, fun k hk => by omega, fun _ _ => ⟨Int.le_refl _, by show (0 : Int) ≤ _; omega⟩, fun _ _ => ⟨Int.le_refl _, h2.1⟩,
    ⟨h1.1, h1.2, h2.1, h2.2, h3.1, h3.2⟩, ⟨Int.le_refl _, by show (0 : Int) ≤ _; omega⟩, ⟨Int.le_refl _, by show (0 : Int) ≤ _; omega, Int.le_refl _, by show (0 : Int) ≤ _; omega⟩⟩
theorem least_bd {w : Int} (h0 : 0 ≤ w) (h1 : w ≤ 1000000) : 1 ≤ leastB w ∧ w ≤ leastB w ∧ leastB w ≤ 1000000 := by
  unfold leastB
  split <;> omega
theorem tens_half (t : List UInt8) {x : LS} (h : Half x.1 0) : ∀ n, Half (tens t (leastB x.1.window) n x).1 n ∧ (tens t (leastB x.1.window) n x).1.window = x.1.window ∧ (tens t (leastB x.1.window) n x).1.count = x.1.count
  | 0 => ⟨h, rfl, rfl⟩
  | n + 1 => by
    obtain ⟨ih, ew, ec⟩ := tens_half t h n
    have lb := least_bd h.head.2.2.1 h.head.2.2.2.1
    unfold tens tenStep
    generalize tens t (leastB x.1.window) n x = y at *
    have h1 := numR_bd t 0 1000 y.2 (by omega)
    have h2 := numR_bd t (leastB x.1.window) 1000000 (numR t 0 1000 y.2).2 lb.2.2
    generalize (numR t 0 1000 y.2).1 = a at *
    generalize (numR t (leastB x.1.window) 1000000 (numR t 0 1000 y.2).2).1 = b at *
    refine ⟨⟨upd_bd ih.rate n h1, upd_bd ih.burst n ⟨by omega, h2.2⟩, fun k hk => ?_, ih.lev, ih.win, ih.head, ih.now, ih.wit⟩, ew, ec⟩
    show y.1.window ≤ upd y.1.burst n b k
    unfold upd
    split
    · rw [ew]; omega
    · exact ih.fits k (by omega)
theorem terms_half (t : List UInt8) (r : Rd) : Half (termsR t (PC.zero, r)).1 (termsR t (PC.zero, r)).1.count.toNat := by
  have := tens_half t (head_half t r) (headR t (PC.zero, r)).1.count.toNat
  unfold termsR
  rw [this.2.2]
  exact this.1
theorem now_half (t : List UInt8) {x : LS} (h : Half x.1 x.1.count.toNat) : Half (nowR t x).1 (nowR t x).1.count.toNat :=
  ⟨h.rate, h.burst, h.fits, h.lev, h.win, h.head, numR_bd t 0 1000000000000 x.2 (by omega), h.wit⟩
theorem links_half (t : List UInt8) {x : LS} (h : Half x.1 x.1.count.toNat) : ∀ n, Half (links t n x).1 (links t n x).1.count.toNat
  | 0 => h
  | n + 1 => by
    have ih := links_half t h n
    exact ⟨ih.rate, ih.burst, ih.fits, ih.lev, ih.win, ih.head, ih.now, ih.wit⟩
theorem wit_half (t : List UInt8) {x : LS} (h : Half x.1 x.1.count.toNat) : Half (witR t x).1 (witR t x).1.count.toNat := by
  unfold witR
  split
  · exact ⟨h.rate, h.burst, h.fits, h.lev, h.win, h.head, h.now, h.wit⟩
  · have l0 := h.head.1
    have l1 := h.head.2.1
    have n0 := h.now.1
    have n1 := h.now.2
    have h1 := numR_bd t x.1.lease (x.1.now + x.1.lease) (numR t 0 2 x.2).2 (by omega)
    have h2 := numR_bd t 1 (numR t x.1.lease (x.1.now + x.1.lease) (numR t 0 2 x.2).2).1 (numR t x.1.lease (x.1.now + x.1.lease) (numR t 0 2 x.2).2).2 (by omega)
    refine ⟨h.rate, h.burst, h.fits, h.lev, h.win, h.head, h.now, ?_⟩
    show 0 ≤ (numR t x.1.lease (x.1.now + x.1.lease) (numR t 0 2 x.2).2).1 ∧ (numR t x.1.lease (x.1.now + x.1.lease) (numR t 0 2 x.2).2).1 ≤ 1000000001000 ∧ 0 ≤ (numR t 1 (numR t x.1.lease (x.1.now + x.1.lease) (numR t 0 2 x.2).2).1 (numR t x.1.lease (x.1.now + x.1.lease) (numR t 0 2 x.2).2).2).1 ∧ (numR t 1 (numR t x.1.lease (x.1.now + x.1.lease) (numR t 0 2 x.2).2).1 (numR t x.1.lease (x.1.now + x.1.lease) (numR t 0 2 x.2).2).2).1 ≤ 1000000001000
    omega
theorem levs_half (t : List UInt8) (i : Nat) {x : LS} (h : Half x.1 x.1.count.toNat) : ∀ n, n ≤ x.1.count.toNat → Half (levs t i n x).1 x.1.count.toNat ∧ (levs t i n x).1.count = x.1.count
  | 0, _ => ⟨h, rfl⟩
  | n + 1, hn => by
    obtain ⟨ih, ec⟩ := levs_half t i h n (by omega)
    unfold levs
    generalize levs t i n x = y at *
    have b1 := ih.fits n (by omega)
    have b2 := ih.burst n
    have b3 := ih.head
    have h1 := numR_bd t 0 (y.1.burst n - y.1.window) y.2 (by omega)
    refine ⟨⟨ih.rate, ih.burst, ih.fits, upd2_bd ih.lev i n ⟨h1.1, by omega⟩, ih.win, ih.head, ih.now, ih.wit⟩, ec⟩
theorem wins_half (t : List UInt8) (i c : Nat) {x : LS} (h : Half x.1 c) : ∀ n, Half (wins t i n x).1 c ∧ (wins t i n x).1.count = x.1.count
  | 0 => ⟨h, rfl⟩
  | n + 1 => by
    obtain ⟨ih, ec⟩ := wins_half t i c h n
    unfold wins
    generalize wins t i n x = y at *
    have b3 := ih.head
    have h1 := numR_bd t 0 y.1.window y.2 (by omega)
    refine ⟨⟨ih.rate, ih.burst, ih.fits, ih.lev, upd2_bd ih.win i n h1, ih.head, ih.now, ih.wit⟩, ec⟩
theorem up_half (t : List UInt8) (i c : Nat) {x : LS} (h : Half x.1 c) : Half (upR t i x).1 c ∧ (upR t i x).1.count = x.1.count := by
  unfold upR
  split
  · exact wins_half t i c (x := ownR t i (x.1, (numR t 0 1 x.2).2)) ⟨h.rate, h.burst, h.fits, h.lev, h.win, h.head, h.now, h.wit⟩ _
  · exact ⟨⟨h.rate, h.burst, h.fits, h.lev, h.win, h.head, h.now, h.wit⟩, rfl⟩
theorem gate_half (t : List UInt8) (i : Nat) {x : LS} (h : Half x.1 x.1.count.toNat) : Half (gateR t i x).1 (gateR t i x).1.count.toNat := by
  obtain ⟨h1, e1⟩ := levs_half t i h _ (Nat.le_refl _)
  obtain ⟨h2, e2⟩ := up_half t i _ h1
  show Half (upR t i _).1 (upR t i _).1.count.toNat
  rw [e2, e1]
  exact h2
theorem load_ok (t : List UInt8) : (loadR t).1.Ok := (gate_half t 1 (gate_half t 0 (wit_half t (links_half t (now_half t (terms_half t _)) 3)))).ok

end Go.Proofs.YtpfahgogjeignabDoor

namespace Go.Proofs.YtpfahgogjeignabDoor

/-! ### what is written, and that it is read -/
def flagN (b : Bool) : Int := if b then 1 else 0
def tenNums (s : PC) (i : Nat) : Nat → List Int
  | 0 => []
  | c + 1 => s.rate i :: s.burst i :: tenNums s (i + 1) c
def rowNums (f : Nat → Int) (i : Nat) : Nat → List Int
  | 0 => []
  | c + 1 => f i :: rowNums f (i + 1) c
def headNums (s : PC) : List Int := [s.lease, s.window, s.count]
def witNums (s : PC) : List Int := if s.holder = -1 then [0] else [s.holder + 1, s.wtil, s.wepoch, flagN s.solo]
def upNums (s : PC) (i : Nat) : List Int := if s.up i then [1, s.til i, s.epoch i, flagN (s.alone i)] ++ rowNums (s.win i) 0 s.count.toNat else [0]
def gateNums (s : PC) (i : Nat) : List Int := rowNums (s.lev i) 0 s.count.toNat ++ upNums s i
/-- All numbers of a cluster, in the order in which they are written. -/
def nums (s : PC) : List Int := headNums s ++ (tenNums s 0 s.count.toNat ++ ([s.now] ++ (rowNums s.link 0 3 ++ (witNums s ++ (gateNums s 0 ++ (gateNums s 1 ++ []))))))
def saveText (s : PC) : ByteArray := ⟨(encL (nums s)).toArray⟩
theorem saveText_list (s : PC) : (saveText s).data.toList = encL (nums s) := rfl

/-- What a cluster is like whose text is read. -/
structure Writ (s : PC) : Prop where
  ok : s.Ok
  one : ∀ k : Nat, (k : Int) < s.count → 1 ≤ s.burst k
  room : ∀ i k : Nat, i < 2 → (k : Int) < s.count → s.lev i k ≤ s.burst k - s.window
  link : ∀ j, j < 3 → 0 ≤ s.link j ∧ s.link j ≤ 2
  who : s.holder = -1 ∨ s.holder = 0 ∨ s.holder = 1
  none : s.holder = -1 → s.wtil = 0 ∧ s.wepoch = 0 ∧ s.solo = false
  some : s.holder ≠ -1 → s.lease ≤ s.wtil ∧ s.wtil ≤ s.now + s.lease ∧ 1 ≤ s.wepoch ∧ s.wepoch ≤ s.wtil
  til : ∀ i, i < 2 → 0 ≤ s.til i ∧ s.til i ≤ s.wtil
  epoch : ∀ i, i < 2 → 0 ≤ s.epoch i ∧ s.epoch i ≤ s.wepoch
  down : ∀ i, i < 2 → s.up i = false → s.epoch i = 0 ∧ s.til i = 0 ∧ s.alone i = false ∧ ∀ k, s.win i k = 0
  rb : ∀ k : Nat, s.count ≤ (k : Int) → s.rate k = 0 ∧ s.burst k = 0
  bare : ∀ k : Nat, s.count ≤ (k : Int) → ∀ i, i < 2 → s.lev i k = 0 ∧ s.win i k = 0

theorem upd_row (f g : Nat → Int) (i : Nat) : upd (fun k => if k < i then f k else g k) i (f i) = fun k => if k < i + 1 then f k else g k := by
  funext k
  unfold upd
  dsimp only
  by_cases hk : k = i
  · subst hk; rw [if_pos rfl, if_pos (by omega)]
  · rw [if_neg hk]
    by_cases hk2 : k < i
    · rw [if_pos hk2, if_pos (by omega)]
    · rw [if_neg hk2, if_neg (by omega)]
theorem tens_good {t : List UInt8} {s : PC} {l : List Int} {least : Int} {n : Nat} (hr : ∀ k, k < n → 0 ≤ s.rate k ∧ s.rate k ≤ 1000) (hb : ∀ k, k < n → 0 ≤ s.burst k ∧ least ≤ s.burst k ∧ s.burst k ≤ 1000000) {x : LS} (h : Rest t (tenNums s 0 n ++ l) x.2) :
    ∀ i, i ≤ n → Rest t (tenNums s i (n - i) ++ l) (tens t least i x).2 ∧ (tens t least i x).1 = { x.1 with rate := fun k => if k < i then s.rate k else x.1.rate k, burst := fun k => if k < i then s.burst k else x.1.burst k }
  | 0, _ => ⟨h, by simp [tens]⟩
  | i + 1, hi => by
    obtain ⟨h1, e1⟩ := tens_good hr hb h i (by omega)
    obtain ⟨c, hc⟩ : ∃ c, n - i = c + 1 := ⟨n - i - 1, by omega⟩
    have hc' : n - (i + 1) = c := by omega
    rw [hc] at h1
    rw [hc']
    unfold tens tenStep
    generalize tens t least i x = y at *
    have r1 := hr i (by omega)
    have b1 := hb i (by omega)
    have h1' : Rest t (s.rate i :: (s.burst i :: (tenNums s (i + 1) c ++ l))) y.2 := h1
    obtain ⟨v1, k1⟩ := h1'.read r1.1 r1.1 r1.2
    obtain ⟨v2, k2⟩ := k1.read (least := least) b1.1 b1.2.1 b1.2.2
    refine ⟨k2, ?_⟩
    show y.1.setTen i (numR t 0 1000 y.2).1 (numR t least 1000000 (numR t 0 1000 y.2).2).1 = _
    rw [v1, v2, e1]
    unfold PC.setTen
    simp only [PC.mk.injEq, true_and, and_true]
    exact ⟨upd_row s.rate x.1.rate i, upd_row s.burst x.1.burst i⟩
theorem links_good {t : List UInt8} {f : Nat → Int} {l : List Int} {n : Nat} (hr : ∀ k, k < n → 0 ≤ f k ∧ f k ≤ 2) {x : LS} (h : Rest t (rowNums f 0 n ++ l) x.2) :
    ∀ i, i ≤ n → Rest t (rowNums f i (n - i) ++ l) (links t i x).2 ∧ (links t i x).1 = { x.1 with link := fun k => if k < i then f k else x.1.link k }
  | 0, _ => ⟨h, by simp [links]⟩
  | i + 1, hi => by
    obtain ⟨h1, e1⟩ := links_good hr h i (by omega)
    obtain ⟨c, hc⟩ : ∃ c, n - i = c + 1 := ⟨n - i - 1, by omega⟩
    have hc' : n - (i + 1) = c := by omega
    rw [hc] at h1
    rw [hc']
    unfold links
    generalize links t i x = y at *
    have r1 := hr i (by omega)
    have h1' : Rest t (f i :: (rowNums f (i + 1) c ++ l)) y.2 := h1
    obtain ⟨v1, k1⟩ := h1'.read r1.1 r1.1 r1.2
    refine ⟨k1, ?_⟩
    show y.1.setLink i (numR t 0 2 y.2).1 = _
    rw [v1, e1]
    unfold PC.setLink
    simp only [PC.mk.injEq, true_and, and_true]
    exact upd_row f x.1.link i
theorem upd_row2 (f : Nat → Int) (g : Nat → Nat → Int) (j i : Nat) : upd (upd g j (fun k => if k < i then f k else g j k)) j (upd (upd g j (fun k => if k < i then f k else g j k) j) i (f i)) = upd g j (fun k => if k < i + 1 then f k else g j k) := by
  funext q
  by_cases hq : q = j
  · subst hq
    rw [upd_same, upd_same, upd_same, upd_row]
  · rw [upd_other _ _ hq, upd_other _ _ hq, upd_other _ _ hq]
theorem levs_good {t : List UInt8} {f : Nat → Int} {l : List Int} {n j : Nat} {x : LS} (hr : ∀ k, k < n → 0 ≤ f k ∧ f k ≤ x.1.burst k - x.1.window) (h : Rest t (rowNums f 0 n ++ l) x.2) :
    ∀ i, i ≤ n → Rest t (rowNums f i (n - i) ++ l) (levs t j i x).2 ∧ (levs t j i x).1 = { x.1 with lev := upd x.1.lev j (fun k => if k < i then f k else x.1.lev j k) }
  | 0, _ => by
    refine ⟨h, ?_⟩
    show x.1 = _
    have : upd x.1.lev j (fun k => if k < 0 then f k else x.1.lev j k) = x.1.lev := by
      funext q
      by_cases hq : q = j
      · subst hq; rw [upd_same]; funext k; rw [if_neg (by omega)]
      · rw [upd_other _ _ hq]
    rw [this]
  | i + 1, hi => by
    obtain ⟨h1, e1⟩ := levs_good hr h i (by omega)
    obtain ⟨c, hc⟩ : ∃ c, n - i = c + 1 := ⟨n - i - 1, by omega⟩
    have hc' : n - (i + 1) = c := by omega
    rw [hc] at h1
    rw [hc']
    unfold levs
    generalize levs t j i x = y at *
    have r1 := hr i (by omega)
    have h1' : Rest t (f i :: (rowNums f (i + 1) c ++ l)) y.2 := h1
    have eb : y.1.burst = x.1.burst := by rw [e1]
    have ew : y.1.window = x.1.window := by rw [e1]
    obtain ⟨v1, k1⟩ := h1'.read r1.1 r1.1 (show f i ≤ y.1.burst i - y.1.window by rw [eb, ew]; exact r1.2)
    refine ⟨k1, ?_⟩
    show y.1.setLev j i (numR t 0 (y.1.burst i - y.1.window) y.2).1 = _
    rw [v1, e1]
    unfold PC.setLev
    simp only [PC.mk.injEq, true_and, and_true]
    exact upd_row2 f x.1.lev j i
theorem wins_good {t : List UInt8} {f : Nat → Int} {l : List Int} {n j : Nat} {x : LS} (hr : ∀ k, k < n → 0 ≤ f k ∧ f k ≤ x.1.window) (h : Rest t (rowNums f 0 n ++ l) x.2) :
    ∀ i, i ≤ n → Rest t (rowNums f i (n - i) ++ l) (wins t j i x).2 ∧ (wins t j i x).1 = { x.1 with win := upd x.1.win j (fun k => if k < i then f k else x.1.win j k) }
  | 0, _ => by
    refine ⟨h, ?_⟩
    show x.1 = _
    have : upd x.1.win j (fun k => if k < 0 then f k else x.1.win j k) = x.1.win := by
      funext q
      by_cases hq : q = j
      · subst hq; rw [upd_same]; funext k; rw [if_neg (by omega)]
      · rw [upd_other _ _ hq]
    rw [this]
  | i + 1, hi => by
    obtain ⟨h1, e1⟩ := wins_good hr h i (by omega)
    obtain ⟨c, hc⟩ : ∃ c, n - i = c + 1 := ⟨n - i - 1, by omega⟩
    have hc' : n - (i + 1) = c := by omega
    rw [hc] at h1
    rw [hc']
    unfold wins
    generalize wins t j i x = y at *
    have r1 := hr i (by omega)
    have h1' : Rest t (f i :: (rowNums f (i + 1) c ++ l)) y.2 := h1
    have ew : y.1.window = x.1.window := by rw [e1]
    obtain ⟨v1, k1⟩ := h1'.read r1.1 r1.1 (show f i ≤ y.1.window by rw [ew]; exact r1.2)
    refine ⟨k1, ?_⟩
    show y.1.setWn j i (numR t 0 y.1.window y.2).1 = _
    rw [v1, e1]
    unfold PC.setWn
    simp only [PC.mk.injEq, true_and, and_true]
    exact upd_row2 f x.1.win j i
theorem flag_good (b : Bool) : 0 ≤ flagN b ∧ flagN b ≤ 1 ∧ flagB (flagN b) = b := by cases b <;> decide

/-- What a gate is in the end. -/
def PC.withGate (y s : PC) (j : Nat) : PC := { y with lev := upd y.lev j (s.lev j), win := upd y.win j (s.win j), up := upd y.up j (s.up j), til := upd y.til j (s.til j), epoch := upd y.epoch j (s.epoch j), alone := upd y.alone j (s.alone j) }
theorem gate_good {t : List UInt8} {s : PC} (hs : Writ s) {l : List Int} {j : Nat} (hj : j < 2) {x : LS} (ec : x.1.count = s.count) (eb : x.1.burst = s.burst) (ew : x.1.window = s.window) (et : x.1.wtil = s.wtil) (ee : x.1.wepoch = s.wepoch)
    (z1 : ∀ k, x.1.lev j k = 0) (z2 : ∀ k, x.1.win j k = 0) (z3 : x.1.til j = 0) (z4 : x.1.epoch j = 0) (z5 : x.1.alone j = false) (h : Rest t (gateNums s j ++ l) x.2) :
    Rest t l (gateR t j x).2 ∧ (gateR t j x).1 = x.1.withGate s j := by
  have c0 := hs.ok.count0
  have rowL : (fun k => if k < s.count.toNat then s.lev j k else x.1.lev j k) = s.lev j := by
    funext k
    split
    · rfl
    · rw [z1 k, (hs.bare k (by omega) j hj).1]
  have rowW : (fun k => if k < s.count.toNat then s.win j k else x.1.win j k) = s.win j := by
    funext k
    split
    · rfl
    · rw [z2 k, (hs.bare k (by omega) j hj).2]
  have hn : Rest t (rowNums (s.lev j) 0 s.count.toNat ++ (upNums s j ++ l)) x.2 := by
    have : gateNums s j ++ l = rowNums (s.lev j) 0 s.count.toNat ++ (upNums s j ++ l) := List.append_assoc ..
    rw [← this]; exact h
  obtain ⟨h1, e1⟩ := levs_good (j := j) (fun k hk => ⟨hs.ok.lev0 j k, by rw [eb, ew]; exact hs.room j k hj (by omega)⟩) hn s.count.toNat (Nat.le_refl _)
  rw [Nat.sub_self, rowL] at *
  have h1' : Rest t (upNums s j ++ l) (levs t j s.count.toNat x).2 := h1
  unfold gateR
  rw [ec]
  generalize levs t j s.count.toNat x = y at *
  have yc : y.1.count = s.count := by rw [e1]; exact ec
  have yw : y.1.window = s.window := by rw [e1]; exact ew
  have yt : y.1.wtil = s.wtil := by rw [e1]; exact et
  have ye : y.1.wepoch = s.wepoch := by rw [e1]; exact ee
  unfold upR
  unfold upNums at h1'
  by_cases hu : s.up j = true
  · rw [if_pos hu] at h1'
    have h2 : Rest t (1 :: s.til j :: s.epoch j :: flagN (s.alone j) :: (rowNums (s.win j) 0 s.count.toNat ++ l)) y.2 := h1'
    obtain ⟨v1, k1⟩ := h2.read (least := 0) (most := 1) (by omega) (by omega) (by omega)
    rw [v1, if_pos (by decide)]
    obtain ⟨v2, k2⟩ := k1.read (least := 0) (hs.til j hj).1 (hs.til j hj).1 (show s.til j ≤ y.1.wtil by rw [yt]; exact (hs.til j hj).2)
    obtain ⟨v3, k3⟩ := k2.read (least := 0) (hs.epoch j hj).1 (hs.epoch j hj).1 (show s.epoch j ≤ y.1.wepoch by rw [ye]; exact (hs.epoch j hj).2)
    obtain ⟨f0, f1, f2⟩ := flag_good (s.alone j)
    obtain ⟨v4, k4⟩ := k3.read (least := 0) f0 f0 f1
    have eo : ownR t j (y.1, (numR t 0 1 y.2).2) = (y.1.setOwn j true (s.til j) (s.epoch j) (s.alone j), (numR t 0 1 (numR t 0 y.1.wepoch (numR t 0 y.1.wtil (numR t 0 1 y.2).2).2).2).2) := by
      unfold ownR
      dsimp only
      rw [v2, v3, v4, f2]
    rw [eo, yc]
    obtain ⟨k5, e5⟩ := wins_good (j := j) (x := (y.1.setOwn j true (s.til j) (s.epoch j) (s.alone j), (numR t 0 1 (numR t 0 y.1.wepoch (numR t 0 y.1.wtil (numR t 0 1 y.2).2).2).2).2)) (fun k _ => ⟨hs.ok.wn0 j k, by show _ ≤ y.1.window; rw [yw]; exact hs.ok.wn1 j k⟩) k4 s.count.toNat (Nat.le_refl _)
    rw [Nat.sub_self] at k5
    refine ⟨k5, ?_⟩
    rw [e5, e1]
    unfold PC.setOwn PC.withGate
    simp only [PC.mk.injEq, true_and, and_true]
    refine ⟨by rw [hu], ?_⟩
    rw [rowW]
  · have hu' : s.up j = false := by simpa using hu
    rw [if_neg hu] at h1'
    have h2 : Rest t (0 :: l) y.2 := h1'
    obtain ⟨v1, k1⟩ := h2.read (least := 0) (most := 1) (by omega) (by omega) (by omega)
    rw [v1, if_neg (by decide)]
    refine ⟨k1, ?_⟩
    obtain ⟨d1, d2, d3, d4⟩ := hs.down j hj hu'
    show y.1.setOwn j false (y.1.til j) (y.1.epoch j) (y.1.alone j) = _
    rw [e1]
    unfold PC.setOwn PC.withGate
    simp only [PC.mk.injEq, true_and, and_true]
    refine ⟨by rw [hu'], by rw [z4, d1], by rw [z3, d2], by rw [z5, d3], ?_⟩
    funext q
    by_cases hq : q = j
    · subst hq
      rw [upd_same]
      funext k
      rw [z2 k, d4 k]
    · rw [upd_other _ _ hq]
theorem wit_good {t : List UInt8} {s : PC} (hs : Writ s) {l : List Int} {x : LS} (en : x.1.now = s.now) (el : x.1.lease = s.lease) (z1 : x.1.wtil = 0) (z2 : x.1.wepoch = 0) (z3 : x.1.solo = false) (h : Rest t (witNums s ++ l) x.2) :
    Rest t l (witR t x).2 ∧ (witR t x).1 = x.1.setWit s.holder s.wtil s.wepoch s.solo := by
  unfold witNums at h
  unfold witR
  by_cases hh : s.holder = -1
  · rw [if_pos hh] at h
    have h2 : Rest t (0 :: l) x.2 := h
    obtain ⟨v1, k1⟩ := h2.read (least := 0) (most := 2) (by omega) (by omega) (by omega)
    rw [v1, if_pos rfl]
    obtain ⟨a, b, c⟩ := hs.none hh
    refine ⟨k1, ?_⟩
    rw [hh, a, b, c, z1, z2, z3]
  · rw [if_neg hh] at h
    have h2 : Rest t ((s.holder + 1) :: s.wtil :: s.wepoch :: flagN s.solo :: l) x.2 := h
    have hw := hs.who
    obtain ⟨s1, s2, s3, s4⟩ := hs.some hh
    have l0 := hs.ok.lease0
    obtain ⟨v1, k1⟩ := h2.read (least := 0) (most := 2) (by omega) (by omega) (by omega)
    rw [v1, if_neg (by omega)]
    obtain ⟨v2, k2⟩ := k1.read (least := x.1.lease) (most := x.1.now + x.1.lease) (by omega) (by omega) (by omega)
    obtain ⟨v3, k3⟩ := k2.read (least := 1) (most := s.wtil) (by omega) s3 s4
    obtain ⟨f0, f1, f2⟩ := flag_good s.solo
    obtain ⟨v4, k4⟩ := k3.read (least := 0) f0 f0 f1
    unfold wit3
    rw [v2, v3, v4, f2]
    refine ⟨k4, ?_⟩
    dsimp only
    rw [show s.holder + 1 - 1 = s.holder by omega]
/-- What is written is read, and nothing is left. -/
theorem load_good {s : PC} (hs : Writ s) : (loadR (encL (nums s))).2 = ⟨(encL (nums s)).length, false⟩ ∧ ((((((loadR (encL (nums s))).1.lease = s.lease ∧ (loadR (encL (nums s))).1.window = s.window ∧ (loadR (encL (nums s))).1.count = s.count) ∧ (loadR (encL (nums s))).1.rate = s.rate ∧ (loadR (encL (nums s))).1.burst = s.burst) ∧ (loadR (encL (nums s))).1.now = s.now ∧ ∀ k, k < 3 → (loadR (encL (nums s))).1.link k = s.link k) ∧
    (loadR (encL (nums s))).1.holder = s.holder ∧ (loadR (encL (nums s))).1.wepoch = s.wepoch ∧ (loadR (encL (nums s))).1.wtil = s.wtil ∧ (loadR (encL (nums s))).1.solo = s.solo) ∧
    ∀ i, i < 2 → (loadR (encL (nums s))).1.up i = s.up i ∧ (loadR (encL (nums s))).1.epoch i = s.epoch i ∧ (loadR (encL (nums s))).1.til i = s.til i ∧ (loadR (encL (nums s))).1.alone i = s.alone i ∧ (loadR (encL (nums s))).1.lev i = s.lev i ∧ (loadR (encL (nums s))).1.win i = s.win i) := by
  have hstart : Rest (encL (nums s)) (nums s) (⟨0, false⟩ : Rd) := ⟨rfl, rfl, Nat.zero_le _⟩
  unfold loadR
  generalize encL (nums s) = t at *
  have c0 := hs.ok.count0
  have c1 := hs.ok.count1
  have l0 := hs.ok.lease0
  have l1 := hs.ok.lease1
  have w0 := hs.ok.win0
  have w1 := hs.ok.win1
  have lb := least_bd w0 w1
  -- the terms
  have h0 : Rest t (s.lease :: s.window :: s.count :: (tenNums s 0 s.count.toNat ++ ([s.now] ++ (rowNums s.link 0 3 ++ (witNums s ++ (gateNums s 0 ++ (gateNums s 1 ++ []))))))) (⟨0, false⟩ : Rd) := hstart
  obtain ⟨v1, k1⟩ := h0.read (least := 1) (most := 1000) (by omega) (by omega) (by omega)
  obtain ⟨v2, k2⟩ := k1.read (least := 0) (most := 1000000) w0 w0 w1
  obtain ⟨v3, k3⟩ := k2.read (least := 1) (most := 4) (by omega) c0 c1
  have eh : headR t (PC.zero, (⟨0, false⟩ : Rd)) = (PC.zero.setTerms s.lease s.window s.count, (numR t 1 4 (numR t 0 1000000 (numR t 1 1000 (⟨0, false⟩ : Rd)).2).2).2) := by
    unfold headR
    dsimp only
    rw [v1, v2, v3]
  obtain ⟨k4, e4⟩ := tens_good (least := leastB s.window) (x := (PC.zero.setTerms s.lease s.window s.count, (numR t 1 4 (numR t 0 1000000 (numR t 1 1000 (⟨0, false⟩ : Rd)).2).2).2)) (fun k _ => ⟨hs.ok.rate0 k, hs.ok.rate1 k⟩) (fun k hk => ⟨hs.ok.burst0 k, by
    have a := hs.one k (by omega)
    have b := hs.ok.fits k (by omega)
    unfold leastB
    split <;> omega, hs.ok.burst1 k⟩) k3 s.count.toNat (Nat.le_refl _)
  rw [Nat.sub_self] at k4
  have et : termsR t (PC.zero, (⟨0, false⟩ : Rd)) = tens t (leastB s.window) s.count.toNat (PC.zero.setTerms s.lease s.window s.count, (numR t 1 4 (numR t 0 1000000 (numR t 1 1000 (⟨0, false⟩ : Rd)).2).2).2) := by
    unfold termsR
    rw [eh]
    rfl
  rw [← et] at k4 e4
  clear et eh k3 k2 k1 h0 v1 v2 v3 hstart
  generalize termsR t (PC.zero, (⟨0, false⟩ : Rd)) = y at *
  have eR : (fun k => if k < s.count.toNat then s.rate k else (PC.zero.setTerms s.lease s.window s.count).rate k) = s.rate := by
    funext k
    split
    · rfl
    · rw [(hs.rb k (by omega)).1]; rfl
  have eB : (fun k => if k < s.count.toNat then s.burst k else (PC.zero.setTerms s.lease s.window s.count).burst k) = s.burst := by
    funext k
    split
    · rfl
    · rw [(hs.rb k (by omega)).2]; rfl
  dsimp only at e4
  rw [eR, eB] at e4
  -- the time
  have k4' : Rest t (s.now :: (rowNums s.link 0 3 ++ (witNums s ++ (gateNums s 0 ++ (gateNums s 1 ++ []))))) y.2 := k4
  obtain ⟨v5, k5⟩ := k4'.read (least := 0) (most := 1000000000000) hs.ok.now0 hs.ok.now0 hs.ok.now1
  have e5 : (nowR t y).1 = y.1.setNow s.now := by unfold nowR; dsimp only; rw [v5]
  have k5' : Rest t (rowNums s.link 0 3 ++ (witNums s ++ (gateNums s 0 ++ (gateNums s 1 ++ [])))) (nowR t y).2 := k5
  clear k5 v5 k4 k4'
  generalize nowR t y = y2 at *
  -- the links
  obtain ⟨k6, e6⟩ := links_good (x := y2) (fun k hk => hs.link k hk) k5' 3 (Nat.le_refl _)
  have k6' : Rest t (witNums s ++ (gateNums s 0 ++ (gateNums s 1 ++ []))) (links t 3 y2).2 := k6
  clear k6 k5'
  generalize links t 3 y2 = y3 at *
  -- the witness
  obtain ⟨k7, e7⟩ := wit_good hs (x := y3) (by rw [e6, e5]; rfl) (by rw [e6, e5, e4]; rfl) (by rw [e6, e5, e4]; rfl) (by rw [e6, e5, e4]; rfl) (by rw [e6, e5, e4]; rfl) k6'
  clear k6'
  generalize witR t y3 = y4 at *
  obtain ⟨k8, e8⟩ := gate_good hs (by omega : 0 < 2) (x := y4) (by rw [e7, e6, e5, e4]; rfl) (by rw [e7, e6, e5, e4]; rfl) (by rw [e7, e6, e5, e4]; rfl) (by rw [e7]; rfl) (by rw [e7]; rfl)
    (by rw [e7, e6, e5, e4]; intro k; rfl) (by rw [e7, e6, e5, e4]; intro k; rfl) (by rw [e7, e6, e5, e4]; rfl) (by rw [e7, e6, e5, e4]; rfl) (by rw [e7, e6, e5, e4]; rfl) k7
  clear k7
  generalize gateR t 0 y4 = y5 at *
  obtain ⟨k9, e9⟩ := gate_good hs (by omega : 1 < 2) (x := y5) (by rw [e8, e7, e6, e5, e4]; rfl) (by rw [e8, e7, e6, e5, e4]; rfl) (by rw [e8, e7, e6, e5, e4]; rfl) (by rw [e8, e7]; rfl) (by rw [e8, e7]; rfl)
    (by rw [e8, e7, e6, e5, e4]; intro k; rfl) (by rw [e8, e7, e6, e5, e4]; intro k; rfl) (by rw [e8, e7, e6, e5, e4]; rfl) (by rw [e8, e7, e6, e5, e4]; rfl) (by rw [e8, e7, e6, e5, e4]; rfl) k8
  clear k8
  generalize gateR t 1 y5 = y6 at *
  have hd := k9.done
  have hg := k9.good
  refine ⟨?_, ?_⟩
  · obtain ⟨_, ⟨p, b⟩⟩ := y6
    dsimp only at hd hg ⊢
    rw [hd, hg]
  · rw [e9, e8, e7, e6, e5, e4]
    refine ⟨⟨⟨⟨⟨rfl, rfl, rfl⟩, rfl, rfl⟩, rfl, fun k hk => if_pos hk⟩, rfl, rfl, rfl, rfl⟩, fun i hi => ?_⟩
    rcases (by omega : i = 0 ∨ i = 1) with rfl | rfl <;> exact ⟨rfl, rfl, rfl, rfl, rfl, rfl⟩
theorem nums_len (s : PC) (h4 : s.count ≤ 4) : (nums s).length ≤ 64 := by
  have ht : ∀ c i, (tenNums s i c).length = 2 * c := by
    intro c
    induction c with
    | zero => intro i; rfl
    | succ c ih => intro i; simp only [tenNums, List.length_cons, ih]; omega
  have hr : ∀ (f : Nat → Int) c i, (rowNums f i c).length = c := by
    intro f c
    induction c with
    | zero => intro i; rfl
    | succ c ih => intro i; simp only [rowNums, List.length_cons, ih]
  have hw : (witNums s).length ≤ 4 := by unfold witNums; split <;> simp
  have hg : ∀ i, (gateNums s i).length ≤ 12 := by
    intro i
    unfold gateNums upNums
    rw [List.length_append, hr]
    split
    · simp only [List.length_append, List.length_cons, List.length_nil, hr]; omega
    · simp only [List.length_cons, List.length_nil]; omega
  have h0 := hg 0
  have h1 := hg 1
  unfold nums headNums
  simp only [List.length_append, List.length_cons, List.length_nil, ht, hr]
  omega
end Go.Proofs.YtpfahgogjeignabDoor

namespace Go.Proofs
open Go.Shelf
def Tryd.laysM171_ren : Go.Shelf.Ren := ⟨fun | 171 => 39 | 243 => 66 | 246 => 70 | 283 => 71 | 284 => 72 | 285 => 73 | 286 => 74 | 129 => 76 | 317 => 75 | 318 => 77 | 319 => 78 | 320 => 79 | 337 => 80 | 338 => 81 | n => n, fun | 3 => 3 | 9 => 9 | 2 => 2 | 4 => 4 | 171 => 106 | 0 => 0 | 53 => 107 | 37 => 41 | 5 => 5 | 173 => 110 | 212 => 112 | 51 => 113 | 20 => 20 | 213 => 114 | 46 => 115 | 232 => 118 | 233 => 119 | n => n, fun | 17 => 0 | 18 => 1 | 19 => 2 | n => n⟩
theorem Tryd.laysM171 : Go.Proofs.LaysM.n171 Tryd.prog Tryd.laysM171_ren := {
  mixed := by kernel_rfl
  f129 := Tryd.func76.trans (congrArg some (by kernel_rfl))
  f171 := Tryd.func39.trans (congrArg some (by kernel_rfl))
  f243 := Tryd.func66.trans (congrArg some (by kernel_rfl))
  f246 := Tryd.func70.trans (congrArg some (by kernel_rfl))
  f283 := Tryd.func71.trans (congrArg some (by kernel_rfl))
  f284 := Tryd.func72.trans (congrArg some (by kernel_rfl))
  f285 := Tryd.func73.trans (congrArg some (by kernel_rfl))
  f286 := Tryd.func74.trans (congrArg some (by kernel_rfl))
  f317 := Tryd.func75.trans (congrArg some (by kernel_rfl))
  f318 := Tryd.func77.trans (congrArg some (by kernel_rfl))
  f319 := Tryd.func78.trans (congrArg some (by kernel_rfl))
  f320 := Tryd.func79.trans (congrArg some (by kernel_rfl))
  f337 := Tryd.func80.trans (congrArg some (by kernel_rfl))
  f338 := Tryd.func81.trans (congrArg some (by kernel_rfl))
  t0 := Tryd.underlying0
  a0 := Tryd.isAgg0
  z0 := Tryd.sizeOf0
  v0 := Tryd.zeroValue0
  t2 := Tryd.underlying2
  a2 := Tryd.isAgg2
  z2 := Tryd.sizeOf2
  v2 := Tryd.zeroValue2
  t3 := Tryd.underlying3
  a3 := Tryd.isAgg3
  z3 := Tryd.sizeOf3
  v3 := Tryd.zeroValue3
  t4 := Tryd.underlying4
  a4 := Tryd.isAgg4
  z4 := Tryd.sizeOf4
  v4 := Tryd.zeroValue4
  t5 := Tryd.underlying5
  a5 := Tryd.isAgg5
  z5 := Tryd.sizeOf5
  v5 := Tryd.zeroValue5
  t9 := Tryd.underlying9
  a9 := Tryd.isAgg9
  z9 := Tryd.sizeOf9
  v9 := Tryd.zeroValue9
  t20 := Tryd.underlying20
  a20 := Tryd.isAgg20
  z20 := Tryd.sizeOf20
  v20 := Tryd.zeroValue20
  t37 := Tryd.underlying41
  a37 := Tryd.isAgg41
  z37 := Tryd.sizeOf41
  v37 := Tryd.zeroValue41
  t46 := Tryd.underlying115
  a46 := Tryd.isAgg115
  z46 := Tryd.sizeOf115
  v46 := Tryd.zeroValue115
  t51 := Tryd.underlying113
  a51 := Tryd.isAgg113
  z51 := Tryd.sizeOf113
  v51 := Tryd.zeroValue113
  t53 := Tryd.underlying107
  a53 := Tryd.isAgg107
  z53 := Tryd.sizeOf107
  v53 := Tryd.zeroValue107
  t171 := Tryd.underlying106
  a171 := Tryd.isAgg106
  z171 := Tryd.sizeOf106
  v171 := Tryd.zeroValue106
  t173 := Tryd.underlying110
  a173 := Tryd.isAgg110
  z173 := Tryd.sizeOf110
  v173 := Tryd.zeroValue110
  t212 := Tryd.underlying112
  a212 := Tryd.isAgg112
  z212 := Tryd.sizeOf112
  v212 := Tryd.zeroValue112
  t213 := Tryd.underlying114
  a213 := Tryd.isAgg114
  z213 := Tryd.sizeOf114
  t232 := Tryd.underlying118
  a232 := Tryd.isAgg118
  z232 := Tryd.sizeOf118
  v232 := Tryd.zeroValue118
  t233 := Tryd.underlying119
  a233 := Tryd.isAgg119
  z233 := Tryd.sizeOf119
  v233 := Tryd.zeroValue119
  g17 := by kernel_rfl
  g18 := by kernel_rfl
  g19 := by kernel_rfl
  i0 := by kernel_rfl
  i2 := by kernel_rfl
  i3 := by kernel_rfl
  i4 := by kernel_rfl
  i5 := by kernel_rfl
  i9 := by kernel_rfl
  i20 := by kernel_rfl
  i37 := by kernel_rfl
  i46 := by kernel_rfl
  i51 := by kernel_rfl
  i53 := by kernel_rfl
  i171 := by kernel_rfl
  i173 := by kernel_rfl
  i212 := by kernel_rfl
  i232 := by kernel_rfl
  i233 := by kernel_rfl
  m17 := by kernel_rfl
  m18 := by kernel_rfl
  m19 := by kernel_rfl }

end Go.Proofs

namespace Go.Proofs.YtpfahgogjeignabDoor
open Go.RowKit

/-- The library's table lies there. -/
def Lib (w : World) : Prop := Go.Lib.TabIs Tryd.prog w "internal/strconv.uint64pow10" .u64 Go.Lib.pow10Tab
theorem gPow : Tryd.prog.globalNamed "internal/strconv.uint64pow10" = some 0 := by kernel_rfl
theorem Lib.below {w w' : World} (h : Lib w) (k : Below w.heap.size w w') : Lib w' := Go.Lib.tabBelow_of_tabIs h w' k
theorem Lib.of_block {w w' : World} (h : Lib w) (k : w'.heap[0]? = w.heap[0]?) : Lib w' := by
  unfold Lib Go.Lib.TabIs World.var? at *
  simp only [gPow, Option.bind_some] at h ⊢
  rw [k]
  exact h
theorem Lib.pos {w : World} (h : Lib w) : 0 < w.heap.size := by
  unfold Lib Go.Lib.TabIs World.var? at h
  simp only [gPow, Option.bind_some] at h
  rcases Nat.lt_or_ge 0 w.heap.size with h' | h'
  · exact h'
  · rw [Array.getElem?_eq_none h'] at h; simp at h
theorem Lib.kept {S : Nat → Prop} {w w' : World} (h : Lib w) (k : Kept S w w') (hs : ¬ S 0) : Lib w' := h.of_block (k.block 0 h.pos hs)
theorem Lib.drew {w : World} (h : Lib w) : Lib w.drew := h
theorem Lib.drewN {w : World} (h : Lib w) (n : Nat) : Lib (w.drewN n) := h
theorem Lib.alloc {w : World} (h : Lib w) (o : Obj) : Lib (w.alloc o) := h.kept (Kept.alloc (Kept.refl (fun _ => False) w) o) (fun h => h)
theorem Lib.set {w : World} (h : Lib w) (p : Addr) (hp : 0 < p.block) (v : Value) : Lib (w.setCell p v) := h.kept (Kept.setCell (Kept.refl (fun k => k = p.block) w) p (.inl rfl) v) (fun (e : 0 = p.block) => by omega)
theorem Kept.grown (S : Nat → Prop) (w : World) (k : Nat) (os : Array Obj) : Kept S w (Go.Sort.grow (w.drewN k) os) := Kept.of_below (Go.Lib.below_grow _ w (Nat.le_refl _) k os)

theorem itoa_any (n : Int) (h0 : -9223372036854775808 ≤ n) (h1 : n ≤ 9223372036854775807) (w : World) (hl : Lib w) :
    Calls Tryd.prog 39 #[.int .i64 n] w fun e w' => e = .returned (.string ⟨(Go.Lib.itoa n).toArray⟩) ∧ Same w w' := by
  refine (Any.strconv_Itoa Tryd.laysM171 n h0 h1 w hl).mono ?_
  rintro e w' ⟨rfl, k, os, rfl⟩
  exact ⟨rfl, Kept.grown _ w k os⟩

end Go.Proofs.YtpfahgogjeignabDoor
