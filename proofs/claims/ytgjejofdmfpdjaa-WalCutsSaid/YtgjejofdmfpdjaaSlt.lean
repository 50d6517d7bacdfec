/-
  A text on two sectors, plainly: a frame's bytes, what a sector says, which of two counts, what a save does.
-/
import Derived.Test.YtgjejofdmfpdjaaDsk
namespace Go.Proofs.Ytgjejofdmfpdjaa
namespace Slt
open Dsk

/-! ### Numbers as bytes, the highest first -/
/-- A number's k last bytes. -/
def be (n : Nat) : Nat → List UInt8
  | 0 => []
  | k + 1 => UInt8.ofNat (n / 256 ^ k % 256) :: be n k
theorem be_len (n : Nat) : ∀ k, (be n k).length = k
  | 0 => rfl
  | k + 1 => by rw [be, List.length_cons, be_len n k]
/-- The number whose bytes these are. -/
def val (l : List UInt8) : Nat := l.foldl (fun a b => a * 256 + b.toNat) 0
theorem val_snoc (l : List UInt8) (b : UInt8) : val (l ++ [b]) = val l * 256 + b.toNat := by simp [val]
theorem val_from (l : List UInt8) : ∀ a, l.foldl (fun a b => a * 256 + b.toNat) a = a * 256 ^ l.length + val l := by
  induction l with
  | nil => intro a; simp [val]
  | cons x l ih =>
    intro a
    have h1 := ih (a * 256 + x.toNat)
    have h2 := ih (0 * 256 + x.toNat)
    have e : val (x :: l) = l.foldl (fun a b => a * 256 + b.toNat) (0 * 256 + x.toNat) := rfl
    rw [e, List.foldl_cons, h1, h2, List.length_cons, Nat.pow_succ, Nat.add_mul, Nat.add_mul, Nat.mul_assoc, Nat.mul_comm 256 (256 ^ l.length)]
    simp
    omega
theorem val_cons (x : UInt8) (l : List UInt8) : val (x :: l) = x.toNat * 256 ^ l.length + val l := by
  have h := val_from l (0 * 256 + x.toNat)
  rw [Nat.zero_mul, Nat.zero_add] at h
  rw [val, List.foldl_cons, Nat.zero_mul, Nat.zero_add]
  exact h
theorem val_lt (l : List UInt8) : val l < 256 ^ l.length := by
  induction l with
  | nil => decide
  | cons x l ih =>
    have hx := x.toNat_lt
    have h2 : (x.toNat + 1) * 256 ^ l.length ≤ 256 * 256 ^ l.length := Nat.mul_le_mul_right _ (by omega)
    rw [Nat.add_mul, Nat.one_mul] at h2
    rw [val_cons, List.length_cons, Nat.pow_succ, Nat.mul_comm (256 ^ l.length)]
    omega
theorem val_be (n : Nat) : ∀ k, val (be n k) = n % 256 ^ k
  | 0 => by rw [Nat.pow_zero, Nat.mod_one]; rfl
  | k + 1 => by
    have hx : (UInt8.ofNat (n / 256 ^ k % 256)).toNat = n / 256 ^ k % 256 := by simp
    rw [be, val_cons, val_be n k, be_len, hx, Nat.mod_pow_succ, Nat.mul_comm (256 ^ k)]
    omega
theorem val_zero {l : List UInt8} (h : val l = 0) : l = List.replicate l.length 0 := by
  induction l with
  | nil => rfl
  | cons x l ih =>
    rw [val_cons] at h
    have hp : 0 < 256 ^ l.length := Nat.pow_pos (by decide)
    have hx : x.toNat = 0 := by
      rcases Nat.eq_zero_or_pos x.toNat with h0 | h0
      · exact h0
      · have := Nat.mul_pos h0 hp; omega
    rw [List.length_cons, List.replicate_succ, ← ih (by omega)]
    congr 1
    exact UInt8.toNat_inj.1 (hx.trans rfl)
theorem val_rep : ∀ k, val (List.replicate k (0 : UInt8)) = 0
  | 0 => rfl
  | k + 1 => by
    rw [List.replicate_succ, val_cons, val_rep k]
    simp

def eight (n : Nat) : ByteArray := ⟨(be n 8).toArray⟩
def two (n : Nat) : ByteArray := ⟨(be n 2).toArray⟩
theorem eight_size (n : Nat) : (eight n).size = 8 := by rw [eight, Kit.size_mk, be_len]
theorem two_size (n : Nat) : (two n).size = 2 := by rw [two, Kit.size_mk, be_len]
/-- The number that a text's bytes say. -/
def vb (s : ByteArray) : Nat := val s.data.toList
theorem vb_lt {s : ByteArray} {k : Nat} (h : s.size = k) : vb s < 256 ^ k := by
  have := val_lt s.data.toList
  rw [Kit.size_list, h] at this
  exact this
theorem vb_eight {n : Nat} (h : n < 18446744073709551616) : vb (eight n) = n := by
  show val (be n 8) = n
  rw [val_be]
  exact Nat.mod_eq_of_lt (by omega)
theorem vb_two {n : Nat} (h : n < 65536) : vb (two n) = n := by
  show val (be n 2) = n
  rw [val_be]
  exact Nat.mod_eq_of_lt (by omega)
theorem vb_zeros (n : Nat) : vb (zeros n) = 0 := val_rep n

/-! ### Texts, byte by byte -/
theorem ext {a b : ByteArray} (hs : a.size = b.size) (h : ∀ i (h1 : i < a.size) (h2 : i < b.size), a[i] = b[i]) : a = b := ByteArray.ext_getElem hs h

/-! ### Frames -/
/-- Which frames there are. -/
def fits (n : Nat) (t : ByteArray) (z : Int) : Bool := decide (32 ≤ z ∧ z ≤ 512 ∧ n ≠ 0 ∧ (t.size : Int) ≤ z - 18)
def body (n : Nat) (t : ByteArray) (z : Nat) : ByteArray := eight n ++ two t.size ++ t ++ zeros (z - 18 - t.size) ++ eight n
def frame (n : Nat) (t : ByteArray) (z : Int) : ByteArray × Bool := if fits n t z then (body n t z.toNat, true) else (⟨#[]⟩, false)
theorem body_size {n : Nat} {t : ByteArray} {z : Nat} (h : t.size + 18 ≤ z) : (body n t z).size = z := by
  simp only [body, ByteArray.size_append, eight_size, two_size, zeros_size]
  omega

/-- What a sector says of itself: the number at its beginning, the one at its end, its text's length. -/
def first (s : ByteArray) : ByteArray := s.extract 0 8
def final (s : ByteArray) : ByteArray := s.extract (s.size - 8) s.size
def long (s : ByteArray) : Nat := vb (s.extract 8 10)
def framed (s : ByteArray) : Bool := decide (32 ≤ s.size ∧ s.size ≤ 512 ∧ first s = final s ∧ vb (first s) ≠ 0 ∧ long s ≤ s.size - 18)
def un (s : ByteArray) : Nat × ByteArray × Bool := if framed s then (vb (first s), s.extract 10 (10 + long s), true) else (0, ⟨#[]⟩, false)
theorem un_not {s : ByteArray} (h : framed s = false) : un s = (0, ⟨#[]⟩, false) := by unfold un; rw [if_neg (by rw [h]; decide)]
theorem un_is {s : ByteArray} (h : framed s = true) : un s = (vb (first s), s.extract 10 (10 + long s), true) := by unfold un; rw [if_pos h]
theorem un_lt (s : ByteArray) : (un s).1 < 18446744073709551616 := by
  by_cases h : framed s = true
  · have h1 := of_decide_eq_true h
    rw [un_is h]
    have h2 : (first s).size = 8 := by rw [first, ByteArray.size_extract]; omega
    have := vb_lt h2
    omega
  · rw [un_not (by simpa using h)]
    decide
theorem un_cases (s : ByteArray) : ((un s).2.2 = true ∧ (un s).1 ≠ 0) ∨ un s = (0, ⟨#[]⟩, false) := by
  by_cases h : framed s = true
  · have h1 := of_decide_eq_true h
    rw [un_is h]
    exact .inl ⟨rfl, h1.2.2.2.1⟩
  · exact .inr (un_not (by simpa using h))

/-! ### What a frame says -/
theorem cat_left {a b : ByteArray} : (a ++ b).extract 0 a.size = a := by
  rw [ByteArray.extract_append]
  simp
theorem body_first {n : Nat} {t : ByteArray} {z : Nat} : first (body n t z) = eight n := by
  apply ByteArray.ext
  simp [first, body, ByteArray.data_extract, ByteArray.data_append, eight, be, two]
theorem body_list (n : Nat) (t : ByteArray) (z : Nat) : (body n t z).data.toList = be n 8 ++ (be t.size 2 ++ (t.data.toList ++ (List.replicate (z - 18 - t.size) 0 ++ be n 8))) := by
  simp [body, ByteArray.data_append, eight, two, zeros]
theorem ext_list (s : ByteArray) (i j : Nat) : (s.extract i j).data.toList = (s.data.toList.drop i).take (j - i) := by
  rw [ByteArray.data_extract, Array.toList_extract, List.extract_eq_take_drop]
theorem bytes_inj {a b : ByteArray} (h : a.data.toList = b.data.toList) : a = b := by
  rw [Kit.bytes_of_data a, h, ← Kit.bytes_of_data b]
theorem body_final {n : Nat} {t : ByteArray} {z : Nat} (h : t.size + 18 ≤ z) : final (body n t z) = eight n := by
  apply bytes_inj
  rw [final, body_size h, ext_list, body_list]
  have e : be n 8 ++ (be t.size 2 ++ (t.data.toList ++ (List.replicate (z - 18 - t.size) 0 ++ be n 8))) = (be n 8 ++ (be t.size 2 ++ (t.data.toList ++ List.replicate (z - 18 - t.size) 0))) ++ be n 8 := by simp
  rw [e, List.drop_left' (by simp only [List.length_append, be_len, List.length_replicate, Kit.size_list]; omega), List.take_of_length_le (by rw [be_len]; omega)]
  rfl
theorem body_mid {n : Nat} {t : ByteArray} {z : Nat} : (body n t z).extract 8 10 = two t.size := by
  apply bytes_inj
  rw [ext_list, body_list, List.drop_left' (be_len n 8), List.take_left' (be_len _ 2)]
  rfl
theorem body_text {n : Nat} {t : ByteArray} {z : Nat} : (body n t z).extract 10 (10 + t.size) = t := by
  apply bytes_inj
  have e : be n 8 ++ (be t.size 2 ++ (t.data.toList ++ (List.replicate (z - 18 - t.size) 0 ++ be n 8))) = (be n 8 ++ be t.size 2) ++ (t.data.toList ++ (List.replicate (z - 18 - t.size) 0 ++ be n 8)) := by simp
  rw [ext_list, body_list, e, List.drop_left' (by simp only [List.length_append, be_len]), List.take_left' (by rw [Kit.size_list]; omega)]
theorem body_framed {n : Nat} {t : ByteArray} {z : Nat} (hn : n ≠ 0) (hn2 : n < 18446744073709551616) (h : t.size + 18 ≤ z) (h1 : 32 ≤ z) (h2 : z ≤ 512) : framed (body n t z) = true := by
  unfold framed long
  rw [decide_eq_true_iff, body_size h, body_first, body_final h, body_mid, vb_eight hn2, vb_two (by omega)]
  exact ⟨h1, h2, rfl, hn, by omega⟩
theorem un_body {n : Nat} {t : ByteArray} {z : Nat} (hn : n ≠ 0) (hn2 : n < 18446744073709551616) (h : t.size + 18 ≤ z) (h1 : 32 ≤ z) (h2 : z ≤ 512) : un (body n t z) = (n, t, true) := by
  rw [un_is (body_framed hn hn2 h h1 h2), body_first, vb_eight hn2]
  unfold long
  rw [body_mid, vb_two (by omega), body_text]
theorem un_zeros (z : Nat) : un (zeros z) = (0, ⟨#[]⟩, false) := by
  apply un_not
  unfold framed
  rw [decide_eq_false_iff_not]
  rintro ⟨-, -, -, h, -⟩
  apply h
  have e : first (zeros z) = zeros (min 8 z) := by
    apply bytes_inj
    rw [first, ext_list]
    show ((List.replicate z 0).drop 0).take 8 = List.replicate (min 8 z) 0
    simp [List.take_replicate]
  rw [e]
  exact vb_zeros _

/-! ### A frame cut short -/
theorem first_list (s : ByteArray) : (first s).data.toList = s.data.toList.take 8 := by rw [first, ext_list, List.drop_zero]
theorem final_list (s : ByteArray) : (final s).data.toList = s.data.toList.drop (s.size - 8) := by
  rw [final, ext_list, List.take_of_length_le]
  rw [List.length_drop, Kit.size_list]
  omega
theorem cut_list {t o : ByteArray} {c : Nat} : (cut t o c).data.toList = t.data.toList.take c ++ o.data.toList.drop c := by
  rw [cut, ByteArray.data_append, Array.toList_append, ext_list, ext_list, List.drop_zero]
  congr 1
  rw [List.take_of_length_le]
  rw [List.length_drop, Kit.size_list]
  omega
theorem cut_first {t o : ByteArray} {c : Nat} (h : 8 ≤ c) (hc : c ≤ t.size) : first (cut t o c) = first t := by
  apply bytes_inj
  rw [first_list, first_list, cut_list, List.take_append_of_le_length, List.take_take]
  · congr 1; omega
  · rw [List.length_take, Kit.size_list]; omega
theorem cut_final {t o : ByteArray} {c z : Nat} (ht : t.size = z) (ho : o.size = z) (h : c + 8 ≤ z) : final (cut t o c) = final o := by
  apply bytes_inj
  have hl : (t.data.toList.take c).length = c := by rw [List.length_take, Kit.size_list]; omega
  rw [final_list, final_list, cut_size ht ho (by omega), ho, cut_list, List.drop_append, hl, List.drop_of_length_le (by rw [hl]; omega), List.nil_append, List.drop_drop]
  congr 1
  omega
theorem cut_low {t o : ByteArray} {c z : Nat} (ht : t.size = z) (ho : o.size = z) (h : c ≤ 8) (hz : 8 ≤ z) (he : first (cut t o c) = first o) : cut t o c = o := by
  apply bytes_inj
  have hl : (t.data.toList.take c).length = c := by rw [List.length_take, Kit.size_list]; omega
  have h1 : (cut t o c).data.toList.take 8 = o.data.toList.take 8 := by rw [← first_list, he, first_list]
  have h2 : (cut t o c).data.toList.drop 8 = o.data.toList.drop 8 := by
    rw [cut_list, List.drop_append, hl, List.drop_of_length_le (by rw [hl]; omega), List.nil_append, List.drop_drop]
    congr 1
    omega
  rw [← List.take_append_drop 8 (cut t o c).data.toList, h1, h2, List.take_append_drop]
theorem cut_high {t o : ByteArray} {c z : Nat} (ht : t.size = z) (ho : o.size = z) (h : z ≤ c + 8) (hc : c ≤ z) (he : final (cut t o c) = final t) : cut t o c = t := by
  apply bytes_inj
  have h2 : (cut t o c).data.toList.drop (z - 8) = t.data.toList.drop (z - 8) := by
    have := congrArg (fun s : ByteArray => s.data.toList) he
    simp only [final_list, cut_size ht ho hc, ht] at this
    exact this
  have h1 : (cut t o c).data.toList.take (z - 8) = t.data.toList.take (z - 8) := by
    rw [cut_list, List.take_append_of_le_length (by rw [List.length_take, Kit.size_list]; omega), List.take_take]
    congr 1
    omega
  rw [← List.take_append_drop (z - 8) (cut t o c).data.toList, h1, h2, List.take_append_drop]
/-- What a frame, cut short over another one, or over bytes 0, says. -/
theorem torn {o : ByteArray} {n m : Nat} {x t : ByteArray} {z c : Nat} (hz : 32 ≤ z) (hm2 : m < 18446744073709551616) (hn2 : n < 18446744073709551616) (ht : t.size + 18 ≤ z)
    (ho : (n = 0 ∧ o = zeros z) ∨ (n ≠ 0 ∧ x.size + 18 ≤ z ∧ o = body n x z)) (hne : n ≠ m) (hc : c ≤ z) :
    (un (cut (body m t z) o c)).2.2 = false ∨ cut (body m t z) o c = o ∨ cut (body m t z) o c = body m t z := by
  have hb : (body m t z).size = z := body_size ht
  have hos : o.size = z := by
    rcases ho with ⟨-, rfl⟩ | ⟨-, h, rfl⟩
    · exact zeros_size z
    · exact body_size h
  have hof : vb (first o) = n ∧ first o = final o := by
    rcases ho with ⟨rfl, rfl⟩ | ⟨-, h, rfl⟩
    · have e : first (zeros z) = zeros 8 := by
        apply bytes_inj
        rw [first_list]
        show (List.replicate z 0).take 8 = List.replicate 8 0
        rw [List.take_replicate]
        congr 1
        omega
      have e2 : final (zeros z) = zeros 8 := by
        apply bytes_inj
        rw [final_list, zeros_size]
        show (List.replicate z 0).drop (z - 8) = List.replicate 8 0
        rw [List.drop_replicate]
        congr 1
        omega
      exact ⟨by rw [e]; exact vb_zeros 8, by rw [e, e2]⟩
    · exact ⟨by rw [body_first, vb_eight hn2], by rw [body_first, body_final h]⟩
  by_cases hf : framed (cut (body m t z) o c) = true
  · have h1 := of_decide_eq_true hf
    have hfe := h1.2.2.1
    by_cases hc1 : 8 ≤ c
    · have e1 : first (cut (body m t z) o c) = eight m := by rw [cut_first hc1 (by omega), body_first]
      by_cases hc2 : c + 8 ≤ z
      · have e2 : final (cut (body m t z) o c) = final o := cut_final hb hos hc2
        exfalso
        apply hne
        rw [← hof.1, hof.2, ← e2, ← hfe, e1, vb_eight hm2]
      · refine .inr (.inr (cut_high hb hos (by omega) hc ?_))
        rw [← hfe, e1, body_final ht]
    · refine .inr (.inl (cut_low hb hos (by omega) (by omega) ?_))
      rw [hfe, cut_final hb hos (by omega), hof.2]
  · exact .inl (by rw [un_not (by simpa using hf)])

/-! ### Which of two counts -/
/-- Which one counts (1, 2; 0: neither), its number, its text. -/
def nw (x y : Nat × ByteArray × Bool) : Nat × Nat × ByteArray := if x.2.2 = true ∧ (y.2.2 = false ∨ y.1 ≤ x.1) then (1, x.1, x.2.1) else if y.2.2 = true then (2, y.1, y.2.1) else (0, 0, ⟨#[]⟩)
/-- What a sector of a disk says. -/
def sec (D : Dk) (a : Int) : Nat × ByteArray × Bool := un (D.read a).1
def new (D : Dk) (a b : Int) : Nat × Nat × ByteArray := nw (sec D a) (sec D b)
def load (D : Dk) (a b : Int) : Nat × ByteArray := (new D a b).2
theorem nw_lt {x y : Nat × ByteArray × Bool} {k : Nat} (hk : 0 < k) (hx : x.1 < k) (hy : y.1 < k) : (nw x y).2.1 < k := by
  unfold nw
  split
  · exact hx
  · split
    · exact hy
    · exact hk
theorem load_lt (D : Dk) (a b : Int) : (load D a b).1 < 18446744073709551616 := nw_lt (by decide) (un_lt _) (un_lt _)
def can (D : Dk) (a b : Int) (t : ByteArray) : Bool := decide (a ≠ b ∧ D.there a = true ∧ D.there b = true ∧ (load D a b).1 + 1 < 18446744073709551616 ∧ t.size + 18 ≤ D.size)
/-- The sector that is written. -/
def where_ (D : Dk) (a b : Int) : Int := if (new D a b).1 = 1 then b else a
def begin_ (D : Dk) (a b : Int) (t : ByteArray) : Dk := if can D a b t then D.push (where_ D a b).toNat (body ((load D a b).1 + 1) t D.size) else D
def save (D : Dk) (a b : Int) (t : ByteArray) : Dk := if can D a b t then (begin_ D a b t).flush else D
theorem can_iff {D : Dk} {a b : Int} {t : ByteArray} : can D a b t = true ↔ a ≠ b ∧ D.there a = true ∧ D.there b = true ∧ (load D a b).1 + 1 < 18446744073709551616 ∧ t.size + 18 ≤ D.size := decide_eq_true_iff
theorem pad_body {n : Nat} {t : ByteArray} {z : Nat} (h : t.size + 18 ≤ z) : pad (body n t z) z = body n t z := by
  unfold pad
  rw [body_size h, Nat.sub_self]
  exact ByteArray.append_empty
/-- A frame is written whole. -/
theorem write_body {D : Dk} {a : Int} {n : Nat} {t : ByteArray} (ha : D.there a = true) (h : t.size + 18 ≤ D.size) : D.canWrite a (body n t D.size) = true ∧ D.write a (body n t D.size) = D.push a.toNat (body n t D.size) := by
  have hc : D.canWrite a (body n t D.size) = true := by simp [Dk.canWrite, ha, body_size h]
  refine ⟨hc, ?_⟩
  unfold Dk.write
  rw [if_pos hc, pad_body h]
theorem where_there {D : Dk} {a b : Int} (ha : D.there a = true) (hb : D.there b = true) : D.there (where_ D a b) = true := by
  unfold where_
  split <;> assumption
theorem begin_is {D : Dk} {a b : Int} {t : ByteArray} (h : can D a b t = true) : begin_ D a b t = D.write (where_ D a b) (body ((load D a b).1 + 1) t D.size) := by
  obtain ⟨-, ha, hb, -, hs⟩ := can_iff.1 h
  unfold begin_
  rw [if_pos h, (write_body (where_there ha hb) hs).2]
theorem can_no {D : Dk} {a b : Int} {t : ByteArray} (h : ¬ (a ≠ b ∧ D.there a = true ∧ D.there b = true ∧ (load D a b).1 + 1 < 18446744073709551616 ∧ t.size + 18 ≤ D.size)) : can D a b t = false ∧ begin_ D a b t = D := by
  have hc : can D a b t = false := decide_eq_false h
  exact ⟨hc, by unfold begin_; rw [if_neg (by rw [hc]; decide)]⟩
theorem ok_begin {D : Dk} (h : D.ok) (a b : Int) (t : ByteArray) : (begin_ D a b t).ok := by
  by_cases hc : can D a b t = true
  · rw [begin_is hc]
    exact h.write _ _
  · unfold begin_
    rw [if_neg hc]
    exact h
theorem ok_save {D : Dk} (h : D.ok) (a b : Int) (t : ByteArray) : (save D a b t).ok := by
  unfold save
  split
  · exact (ok_begin h a b t).flush
  · exact h
theorem pend_begin (D : Dk) (a b : Int) (t : ByteArray) : (begin_ D a b t).pend.length ≤ D.pend.length + 1 := by
  unfold begin_
  split
  · simp [Dk.push]
  · omega
theorem pend_save (D : Dk) (a b : Int) (t : ByteArray) : (save D a b t).pend.length ≤ D.pend.length + 1 := by
  unfold save
  split
  · simp [Dk.flush, Dk.settle]
  · omega
end Slt
end Go.Proofs.Ytgjejofdmfpdjaa
