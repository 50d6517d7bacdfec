/-
  A message's bytes, by plain functions on lists: what is said of a message, and of what bytes are; no program.
-/
import Derived.Test.YtnbjlhbaeghihaaLeb
namespace Go.Proofs.Ytnbjlhbaeghihaa.Msg
open Go.Lib (uvarint uvarint_small uvarint_big uvarint_length64 uvarint_pos)
open Leb (dec decT decL takeNs takeTs encT encN encL encNs encTs)

/-- Of a kind: how many numbers, and texts at least and at most. -/
def numOf : Nat → Nat
  | 0 => 4 | 1 => 3 | 2 => 5 | 3 => 4 | 4 => 4 | 5 => 3 | 6 => 2 | 7 => 3 | _ => 0
def lowOf : Nat → Nat
  | 4 => 1 | 6 => 1 | 7 => 1 | _ => 0
def highOf : Nat → Nat
  | 2 => 64 | 4 => 1 | 6 => 1 | 7 => 1 | _ => 0
theorem eight {k : Nat} (h : k < 8) : k = 0 ∨ k = 1 ∨ k = 2 ∨ k = 3 ∨ k = 4 ∨ k = 5 ∨ k = 6 ∨ k = 7 := by omega
theorem numOf_le (k : Nat) : numOf k ≤ 5 := by unfold numOf; split <;> omega
theorem highOf_le (k : Nat) : highOf k ≤ 64 := by unfold highOf; split <;> omega
theorem least_most (k : Nat) : lowOf k ≤ 1 := by unfold lowOf; split <;> omega

/-- The bytes of a message. -/
def enc (k : Nat) (ns : List Nat) (ts : List (List UInt8)) : List UInt8 := uvarint k ++ encNs ns ++ encL ts

/-- Has it the form of its kind? -/
def form (k : Nat) (ns : List Nat) (ts : List (List UInt8)) : Prop := ns.length = numOf k ∧ lowOf k ≤ ts.length ∧ ts.length ≤ highOf k
instance (k : Nat) (ns : List Nat) (ts : List (List UInt8)) : Decidable (form k ns ts) := by unfold form; infer_instance

/-- What keeps a message from being encoded: 0 where nothing does. -/
def chk (k : Int) (ns : List Nat) (ts : List (List UInt8)) : Nat :=
  if k < 0 ∨ 7 < k then 20 else if ¬ form k.toNat ns ts then 21 else if 65536 < (enc k.toNat ns ts).length then 22 else 0

/-- What message bytes begin with, and what is left, or the error. -/
def take (l : List UInt8) : Except Nat ((Nat × List Nat × List (List UInt8)) × List UInt8) :=
  match dec l with
  | none => .error 21
  | some (k, r) => if 7 < k then .error 20 else
    match takeNs (numOf k) r with
    | none => .error 21
    | some (ns, r2) => match decL r2 (highOf k) with
      | none => .error 21
      | some (ts, r3) => if ts.length < lowOf k then .error 21 else .ok ((k, ns, ts), r3)

/-- What message bytes are, or the error. -/
def dm (l : List UInt8) : Except Nat (Nat × List Nat × List (List UInt8)) :=
  if 65536 < l.length then .error 22 else
  match take l with
  | .error e => .error e
  | .ok (m, r) => if r = [] then .ok m else .error 21

theorem take_enc {k : Nat} {ns : List Nat} {ts : List (List UInt8)} (hk : k < 8) (hn : ∀ x ∈ ns, x < 18446744073709551616) (hf : form k ns ts) (hl : (encTs ts).length < 18446744073709551616) (r : List UInt8) :
    take (enc k ns ts ++ r) = .ok ((k, ns, ts), r) := by
  obtain ⟨h1, h2, h3⟩ := hf
  unfold take enc
  rw [List.append_assoc, List.append_assoc, Leb.dec_put (by omega)]
  simp only
  rw [if_neg (by omega), ← h1, Leb.takeNs_put ns _ hn]
  simp only
  rw [Leb.decL_put hl r (by omega)]
  simp only
  rw [if_neg (by omega)]

theorem take_some {l : List UInt8} {k : Nat} {ns : List Nat} {ts : List (List UInt8)} {r : List UInt8} (h : take l = .ok ((k, ns, ts), r)) :
    l = enc k ns ts ++ r ∧ k < 8 ∧ form k ns ts ∧ ∀ x ∈ ns, x < 18446744073709551616 := by
  unfold take at h
  cases hd : dec l with
  | none => rw [hd] at h; cases h
  | some x =>
    obtain ⟨k', r1⟩ := x
    rw [hd] at h
    simp only at h
    obtain ⟨e1, hk⟩ := Leb.dec_some hd
    by_cases h7 : 7 < k'
    · rw [if_pos h7] at h; cases h
    · rw [if_neg h7] at h
      cases hn : takeNs (numOf k') r1 with
      | none => rw [hn] at h; cases h
      | some y =>
        obtain ⟨ns', r2⟩ := y
        rw [hn] at h
        simp only at h
        obtain ⟨e2, hl2, hx2⟩ := Leb.takeNs_some _ _ _ _ hn
        cases ht : decL r2 (highOf k') with
        | none => rw [ht] at h; cases h
        | some z =>
          obtain ⟨ts', r3⟩ := z
          rw [ht] at h
          simp only at h
          obtain ⟨e3, hm⟩ := Leb.decL_some ht
          by_cases hlt : ts'.length < lowOf k'
          · rw [if_pos hlt] at h; cases h
          · rw [if_neg hlt] at h
            simp only [Except.ok.injEq, Prod.mk.injEq] at h
            obtain ⟨⟨rfl, rfl, rfl⟩, rfl⟩ := h
            refine ⟨?_, by omega, ⟨hl2, by omega, by omega⟩, hx2⟩
            rw [e1, e2, e3]
            simp only [enc, List.append_assoc]

theorem enc_pos (k : Nat) (ns : List Nat) (ts : List (List UInt8)) : 0 < (enc k ns ts).length := by
  have := uvarint_pos k
  unfold enc
  rw [List.length_append, List.length_append]
  omega

theorem encTs_small {k : Nat} {ns : List Nat} {ts : List (List UInt8)} (h : (enc k ns ts).length ≤ 65536) : (encTs ts).length < 18446744073709551616 := by
  unfold enc encL at h
  simp only [List.length_append] at h
  omega

theorem chk_zero {k : Int} {ns : List Nat} {ts : List (List UInt8)} (h : chk k ns ts = 0) : ∃ n : Nat, k = n ∧ n < 8 ∧ form n ns ts ∧ (enc n ns ts).length ≤ 65536 := by
  unfold chk at h
  by_cases h1 : k < 0 ∨ 7 < k
  · rw [if_pos h1] at h; cases h
  · rw [if_neg h1] at h
    by_cases h2 : form k.toNat ns ts
    · rw [if_neg (by simpa using h2)] at h
      by_cases h3 : 65536 < (enc k.toNat ns ts).length
      · rw [if_pos h3] at h; cases h
      · exact ⟨k.toNat, by omega, by omega, h2, by omega⟩
    · rw [if_pos h2] at h; cases h

theorem chk_ok {n : Nat} {ns : List Nat} {ts : List (List UInt8)} (h : n < 8) (hf : form n ns ts) (hl : (enc n ns ts).length ≤ 65536) : chk n ns ts = 0 := by
  unfold chk
  rw [if_neg (by omega), Int.toNat_natCast, if_neg (by simpa using hf), if_neg (by omega)]

/-- What is encoded is decoded as it was. -/
theorem dm_enc {k : Nat} {ns : List Nat} {ts : List (List UInt8)} (hk : k < 8) (hn : ∀ x ∈ ns, x < 18446744073709551616) (hf : form k ns ts) (hl : (enc k ns ts).length ≤ 65536) :
    dm (enc k ns ts) = .ok (k, ns, ts) := by
  have h := take_enc hk hn hf (encTs_small hl) []
  rw [List.append_nil] at h
  unfold dm
  rw [if_neg (by omega), h]
  rfl

/-- What is decoded may be, and its bytes are these. -/
theorem dm_some {l : List UInt8} {k : Nat} {ns : List Nat} {ts : List (List UInt8)} (h : dm l = .ok (k, ns, ts)) :
    l = enc k ns ts ∧ k < 8 ∧ form k ns ts ∧ (∀ x ∈ ns, x < 18446744073709551616) ∧ l.length ≤ 65536 := by
  unfold dm at h
  by_cases h1 : 65536 < l.length
  · rw [if_pos h1] at h; cases h
  · rw [if_neg h1] at h
    cases ht : take l with
    | error e => rw [ht] at h; cases h
    | ok x =>
      obtain ⟨⟨k', ns', ts'⟩, r⟩ := x
      rw [ht] at h
      simp only at h
      by_cases hr : r = []
      · rw [if_pos hr] at h
        simp only [Except.ok.injEq, Prod.mk.injEq] at h
        obtain ⟨rfl, rfl, rfl⟩ := h
        subst hr
        obtain ⟨e, h2, h3, h4⟩ := take_some ht
        rw [List.append_nil] at e
        exact ⟨e, h2, h3, h4, by omega⟩
      · rw [if_neg hr] at h; cases h

/-- No message's bytes begin another one's. -/
theorem dm_more {l r : List UInt8} {m m' : Nat × List Nat × List (List UInt8)} (h : dm l = .ok m) (h' : dm (l ++ r) = .ok m') : r = [] := by
  obtain ⟨k, ns, ts⟩ := m
  obtain ⟨k', ns', ts'⟩ := m'
  obtain ⟨e, h2, h3, h4, h5⟩ := dm_some h
  obtain ⟨e', h2', h3', h4', h5'⟩ := dm_some h'
  have a := take_enc h2 h4 h3 (encTs_small (by rw [← e]; exact h5)) r
  rw [← e, e'] at a
  have b := take_enc h2' h4' h3' (encTs_small (by rw [← e']; exact h5')) []
  rw [List.append_nil] at b
  rw [b] at a
  simp only [Except.ok.injEq, Prod.mk.injEq] at a
  exact a.2.symm

/-- Unlike messages have unlike bytes. -/
theorem enc_inj {k k' : Nat} {ns ns' : List Nat} {ts ts' : List (List UInt8)} (hk : k < 8) (hn : ∀ x ∈ ns, x < 18446744073709551616) (hf : form k ns ts) (hl : (enc k ns ts).length ≤ 65536)
    (hk' : k' < 8) (hn' : ∀ x ∈ ns', x < 18446744073709551616) (hf' : form k' ns' ts') (h : enc k ns ts = enc k' ns' ts') : k = k' ∧ ns = ns' ∧ ts = ts' := by
  have a := dm_enc hk hn hf hl
  have b := dm_enc hk' hn' hf' (by rw [← h]; exact hl)
  rw [← h, a] at b
  simp only [Except.ok.injEq, Prod.mk.injEq] at b
  exact b
end Go.Proofs.Ytnbjlhbaeghihaa.Msg
