/-
  The document's own Issue and Check.
-/
import Derived.Test.YtbhdcocgghaifaaTokR
import Derived.Test.YtbhdcocgghaifaaFew
namespace Go.Proofs.Ytbhdcocgghaifaa
open Go.RowKit
open Ideal Ida Ref3
open Go.Lib (uvarint uvarint_small)

namespace Cap
theorem few_iss {O : Or} (h : O.rows.length + 1 < 4294967296 ∧ O.met.length < 4294967296 ∧ O.bads + 1 < 4294967296) (k : Nat) (t : Tok) : Few O ∧ Few (O.issO k t) := by
  have h1 := few_ask O (qm k (text t))
  exact ⟨⟨by omega, by omega, by omega⟩, ⟨by unfold Or.issO; omega, by unfold Or.issO; rw [h1.2.1]; omega, by unfold Or.issO; omega⟩⟩

set_option maxRecDepth 100000 in
set_option maxHeartbeats 4000000 in
theorem rissue_any {K : Nat → Prop} {q : Nat} {w : World} {O : Or} (h : Ref K w q O) (hB : On K w) (hf : Few O) (k : Nat) (t : Tok) (ht : fine t) :
    Calls Try.prog 17 #[rptr q, .int .u64 (k : Int), .agg #[.int .u64 (t.n : Int), .int .u64 (t.v : Int), .int .u64 (t.e : Int), .int .u64 (t.r : Int), .int .u64 (t.g : Int)]] w fun x w' => x = .returned (.agg #[.int .u64 ((O.issT k t).n : Int), .int .u64 ((O.issT k t).v : Int), .int .u64 ((O.issT k t).e : Int), .int .u64 ((O.issT k t).r : Int), .int .u64 ((O.issT k t).g : Int)]) ∧ Ref K w' q (O.issO k t) ∧ Fr K w w' := by
  have cx := (below_lit w (.cells #[.int .u64 (t.n : Int), .int .u64 (t.v : Int), .int .u64 (t.e : Int), .int .u64 (t.r : Int), .int .u64 (t.g : Int)] 24)).trans ((below_lit (w.alloc (.cells #[.int .u64 (t.n : Int), .int .u64 (t.v : Int), .int .u64 (t.e : Int), .int .u64 (t.r : Int), .int .u64 (t.g : Int)] 24)) (.cells #[.int .u64 0, .int .u64 0, .int .u64 0, .int .u64 0, .int .u64 0] 24)).mono (by rw [World.size_alloc]; exact Nat.le_succ _))
  have hK : ∀ i, (K i ∨ i = w.heap.size ∨ i = w.heap.size + 1) → i < w.heap.size → K i := fun i hi hlt => hi.resolve_right (fun e => by omega)
  have h0 := (h.widen (K' := fun i => K i ∨ i = w.heap.size ∨ i = w.heap.size + 1) hK).below cx
  have hB0 : On (fun i => K i ∨ i = w.heap.size ∨ i = w.heap.size + 1) ((w.alloc (.cells #[.int .u64 (t.n : Int), .int .u64 (t.v : Int), .int .u64 (t.e : Int), .int .u64 (t.r : Int), .int .u64 (t.g : Int)] 24)).alloc (.cells #[.int .u64 0, .int .u64 0, .int .u64 0, .int .u64 0, .int .u64 0] 24)) := by
    intro i hi
    rw [World.size_alloc, World.size_alloc]
    rcases hi with hi | hi | hi
    · have := hB i hi; omega
    · omega
    · omega
  have B0 := (Box.new w #[.int .u64 (t.n : Int), .int .u64 (t.v : Int), .int .u64 (t.e : Int), .int .u64 (t.r : Int), .int .u64 (t.g : Int)] 24).alloc (.cells #[.int .u64 0, .int .u64 0, .int .u64 0, .int .u64 0, .int .u64 0] 24)
  have R0 := Box.new (w.alloc (.cells #[.int .u64 (t.n : Int), .int .u64 (t.v : Int), .int .u64 (t.e : Int), .int .u64 (t.r : Int), .int .u64 (t.g : Int)] 24)) #[.int .u64 0, .int .u64 0, .int .u64 0, .int .u64 0, .int .u64 0] 24
  rw [World.size_alloc] at R0
  have c0 : Fr K w ((w.alloc (.cells #[.int .u64 (t.n : Int), .int .u64 (t.v : Int), .int .u64 (t.e : Int), .int .u64 (t.r : Int), .int .u64 (t.g : Int)] 24)).alloc (.cells #[.int .u64 0, .int .u64 0, .int .u64 0, .int .u64 0, .int .u64 0] 24)) := (but_alloc w (fun i => ¬ K i) (.cells #[.int .u64 (t.n : Int), .int .u64 (t.v : Int), .int .u64 (t.e : Int), .int .u64 (t.r : Int), .int .u64 (t.g : Int)] 24)).alloc (.cells #[.int .u64 0, .int .u64 0, .int .u64 0, .int .u64 0, .int .u64 0] 24)
  have hnar : ∀ {w1 w2 : World}, Fr (fun i => K i ∨ i = w.heap.size ∨ i = w.heap.size + 1) w1 w2 → Fr K w1 w2 := fun f => f.wider (fun i _ hk hK => hk (.inl hK))
  have HS := fun w => rsaid_any t ht w
  have HM := fun w' (h : Ref (fun i => K i ∨ i = w.heap.size ∨ i = w.heap.size + 1) w' q O) hB => Ref3.mac_any h hB hf k (text t)
  have htx : text t = (⟨#[116, 111, 107, 101, 110]⟩ : ByteArray) ++ said t := rfl
  have ss := said_size ht
  have f1 : (9223372036854775807 < ((⟨#[116, 111, 107, 101, 110]⟩ : ByteArray).size : Int) + ((said t).size : Int)) = False := by
    rw [show (⟨#[116, 111, 107, 101, 110]⟩ : ByteArray).size = 5 from rfl]; simp; omega
  have f2 : (9223372036854775807 < 5 + ((said t).size : Int)) = False := by simp; omega
  have f3 : (9223372036854775807 < 5 + (said t).size) = False := by simp; omega
  have HT := Lib.hid htx
  have hr : Or.issT O k t = { t with g := O.val (qm k (text t)) } := rfl
  unfold Or.issO
  rw [hr]
  simp only
  rw [htx] at HM
  rw [htx]
  generalize O.val (qm k ((⟨#[116, 111, 107, 101, 110]⟩ : ByteArray) ++ said t)) = c at *
  generalize O.ask (qm k ((⟨#[116, 111, 107, 101, 110]⟩ : ByteArray) ++ said t)) = O2 at *
  clear h ht hf hB cx hK ss htx hr HT
  generalize said t = ta at *
  have HB := Lib.hid hB0
  clear hB0
  have q0 := B0.cell (j := 0) rfl
  have q1 := B0.cell (j := 1) rfl
  have q2 := B0.cell (j := 2) rfl
  have q3 := B0.cell (j := 3) rfl
  have q4 := B0.cell (j := 4) rfl
  go_enter Try.func17, Try.ntmps17
  go_wp2_with fail
  refine (HS _).mono ?_
  rintro x w1 ⟨rfl, b1⟩
  have h1 := h0.below b1
  have B1 := B0.below b1
  have R1 := R0.below b1
  have c1 := c0.trans (Kit.But.of_below b1 (Nat.le_refl _) _)
  have z1 := b1.size
  clear B0 R0 c0 b1 h0 HS q0 q1 q2 q3 q4
  go_wp2_with fail
  refine (HM _ h1 (on_of HB.out z1)).mono ?_
  rintro x w2 ⟨rfl, h2, b2⟩
  have B2 := B1.but b2 (fun hn => hn (.inr (.inl rfl)))
  have R2 := R1.but b2 (fun hn => hn (.inr (.inr rfl)))
  have c2 := c1.trans (hnar b2)
  clear B1 R1 c1 b2 h1 HM z1
  have f4 := B2.frozen 4
  have g4 := B2.cell (j := 4) rfl
  have B3 : Box w.heap.size (w2.setCell ⟨w.heap.size, 4, none⟩ (.int .u64 (c : Int))) #[.int .u64 (t.n : Int), .int .u64 (t.v : Int), .int .u64 (t.e : Int), .int .u64 (t.r : Int), .int .u64 (c : Int)] 24 := B2.set 4 (.int .u64 (c : Int))
  have R3 := R2.set_off (p := ⟨w.heap.size, 4, none⟩) (by simp) (.int .u64 (c : Int))
  have c3 := c2.setCell (p := ⟨w.heap.size, 4, none⟩) (fun hh => absurd hh (Nat.lt_irrefl _)) (.int .u64 (c : Int))
  clear B2 R2 c2
  have q0 := B3.cell (j := 0) rfl
  have q1 := B3.cell (j := 1) rfl
  have q2 := B3.cell (j := 2) rfl
  have q3 := B3.cell (j := 3) rfl
  have q4 := B3.cell (j := 4) rfl
  have p0 := R3.cell (j := 0) rfl
  have p1 := R3.cell (j := 1) rfl
  have p2 := R3.cell (j := 2) rfl
  have p3 := R3.cell (j := 3) rfl
  have p4 := R3.cell (j := 4) rfl
  have fr0 := R3.frozen 0
  have fr1 := R3.frozen 1
  have fr2 := R3.frozen 2
  have fr3 := R3.frozen 3
  have fr4 := R3.frozen 4
  have h4 := (h2.kept (fun i hi _ => (put5_off (w := w2.setCell ⟨w.heap.size, 4, none⟩ (.int .u64 (c : Int))) (b := w.heap.size + 1) (i := i) (fun e => hi (.inr (.inr e))) (.int .u64 (t.n : Int)) (.int .u64 (t.v : Int)) (.int .u64 (t.e : Int)) (.int .u64 (t.r : Int)) (.int .u64 (c : Int))).trans (heap_setCell_other w2 ⟨w.heap.size, 4, none⟩ i _ (fun e => hi (.inr (.inl e)))))).widen (K' := K) (fun i hi _ => .inl hi)
  clear h2 hnar
  go_wp2
  refine bodyPost_ret (results_tok1 rfl rfl (R3.put5 (.int .u64 (t.n : Int)) (.int .u64 (t.v : Int)) (.int .u64 (t.e : Int)) (.int .u64 (t.r : Int)) (.int .u64 (c : Int)))) rfl ?_
  exact ⟨rfl, h4, but_put5 c3 (fun e => absurd e (by omega)) _ _ _ _ _⟩

/-- A number that a cell holds. -/
def cellNat (w : World) (a : Addr) : Nat := match w.cell? a with
  | some (.int _ n) => n.toNat
  | _ => 0

set_option maxRecDepth 100000 in
set_option maxHeartbeats 8000000 in
theorem rcheck_any {K : Nat → Prop} {q : Nat} {w : World} {O : Or} (h : Ref K w q O) (hB : On K w) (hf : Few O) (k : Nat) (t : Tok) (ht : fine t) (v e want : Nat) (hw : want < 18446744073709551616) :
    Calls Try.prog 19 #[rptr q, .int .u64 (k : Int), .agg #[.int .u64 (t.n : Int), .int .u64 (t.v : Int), .int .u64 (t.e : Int), .int .u64 (t.r : Int), .int .u64 (t.g : Int)], .int .u64 (v : Int), .int .u64 (e : Int), .int .u64 (want : Int)] w fun x w' => x = .returned (.int .i64 (O.chk k t v e want : Int)) ∧ Ref K w' q (O.chkO k t) ∧ Fr K w w' := by
  have cx := below_lit w (.cells #[.int .u64 (t.n : Int), .int .u64 (t.v : Int), .int .u64 (t.e : Int), .int .u64 (t.r : Int), .int .u64 (t.g : Int)] 24)
  have cd := cx.drew
  have h0 : Ref (fun i => K i ∨ i = w.heap.size) (w.alloc (.cells #[.int .u64 (t.n : Int), .int .u64 (t.v : Int), .int .u64 (t.e : Int), .int .u64 (t.r : Int), .int .u64 (t.g : Int)] 24)).drew q O := (h.widen (K' := fun i => K i ∨ i = w.heap.size) (fun i hi hlt => hi.resolve_right (fun e => by omega))).below cd
  have hB0 : On (fun i => K i ∨ i = w.heap.size) (w.alloc (.cells #[.int .u64 (t.n : Int), .int .u64 (t.v : Int), .int .u64 (t.e : Int), .int .u64 (t.r : Int), .int .u64 (t.g : Int)] 24)).drew := by
    intro i hi
    show i < (w.alloc (.cells #[.int .u64 (t.n : Int), .int .u64 (t.v : Int), .int .u64 (t.e : Int), .int .u64 (t.r : Int), .int .u64 (t.g : Int)] 24)).heap.size
    rw [World.size_alloc]
    rcases hi with hi | hi
    · have := hB i hi; omega
    · omega
  have B0 := (Box.new w #[.int .u64 (t.n : Int), .int .u64 (t.v : Int), .int .u64 (t.e : Int), .int .u64 (t.r : Int), .int .u64 (t.g : Int)] 24).drew
  have c0 := (but_alloc w (fun i => ¬ K i) (.cells #[.int .u64 (t.n : Int), .int .u64 (t.v : Int), .int .u64 (t.e : Int), .int .u64 (t.r : Int), .int .u64 (t.g : Int)] 24)).drew
  have hnar : ∀ {w1 w2 : World}, Fr (fun i => K i ∨ i = w.heap.size) w1 w2 → Fr K w1 w2 := fun f => f.wider (fun i _ hk hK => hk (.inl hK))
  have HS := fun w => rsaid_any t ht w
  have HV := fun w' (h : Ref (fun i => K i ∨ i = w.heap.size) w' q O) hB => Ref3.verify_any h hB hf k (text t) t.g
  have hr64 := ht.2.2.2.1
  have htx : text t = (⟨#[116, 111, 107, 101, 110]⟩ : ByteArray) ++ said t := rfl
  have ss := said_size ht
  have f1 : (9223372036854775807 < ((⟨#[116, 111, 107, 101, 110]⟩ : ByteArray).size : Int) + ((said t).size : Int)) = False := by
    rw [show (⟨#[116, 111, 107, 101, 110]⟩ : ByteArray).size = 5 from rfl]; simp; omega
  have f2 : (9223372036854775807 < 5 + ((said t).size : Int)) = False := by simp; omega
  have f3 : (9223372036854775807 < 5 + (said t).size) = False := by simp; omega
  have hr : O.chk k t v e want = if O.isTag k (text t) t.g then if t.v = v then if t.e < e then 72 else if covers t.r want then 0 else 73 else 71 else 70 := rfl
  have HR := Lib.hid hr
  unfold Or.chkO
  generalize O.chk k t v e want = res at *
  rw [htx] at HV HR
  rw [htx]
  generalize O.verify k ((⟨#[116, 111, 107, 101, 110]⟩ : ByteArray) ++ said t) t.g = O2 at *
  generalize O.isTag k ((⟨#[116, 111, 107, 101, 110]⟩ : ByteArray) ++ said t) t.g = y at *
  clear h ht hr hf hB cx cd ss htx
  generalize said t = ta at *
  have HB := Lib.hid hB0
  clear hB0
  go_enter Try.func19, Try.ntmps19
  go_upto_region 1 with (fail)
  go_region_held3 (fun w' => w'.cell? ⟨w.heap.size, 0, none⟩ = some (.int .u64 (t.n : Int)) ∧ w'.cell? ⟨w.heap.size, 1, none⟩ = some (.int .u64 (t.v : Int)) ∧ w'.cell? ⟨w.heap.size, 2, none⟩ = some (.int .u64 (t.e : Int)) ∧ w'.cell? ⟨w.heap.size, 3, none⟩ = some (.int .u64 (t.r : Int)) ∧ w'.cell? ⟨w.heap.size, 4, none⟩ = some (.int .u64 (t.g : Int)))
    (first | exact ⟨B0.cell rfl, B0.cell rfl, B0.cell rfl, B0.cell rfl, B0.cell rfl⟩ | exact ⟨B2.cell rfl, B2.cell rfl, B2.cell rfl, B2.cell rfl, B2.cell rfl⟩ | exact ⟨B3.cell rfl, B3.cell rfl, B3.cell rfl, B3.cell rfl, B3.cell rfl⟩)
    (first
      | (go_at_call 32; have hbS := B2; refine (HV _ h2 (on_of HB.out z2)).mono ?_; rintro x w3 ⟨rfl, h3, b3⟩; have B3 := B2.but b3 (fun hn => hn (.inr rfl)); have c3 := c2.trans (hnar b3))
      | (go_at_call 14; refine (HS _).mono ?_; rintro x w2 ⟨rfl, b2⟩; have h2 := h0.below b2; have B2 := B0.below b2; have c2 := c0.trans (Kit.But.of_below b2 (Nat.le_refl _) _); have z2 := b2.size))
  clear HS HV h2 h0 B2 B0 c2 c0 b2 b3 hnar
  have q0 := B3.cell (j := 0) rfl
  have q1 := B3.cell (j := 1) rfl
  have q2 := B3.cell (j := 2) rfl
  have q3 := B3.cell (j := 3) rfl
  have q4 := B3.cell (j := 4) rfl
  have hnarr : ∀ {w1 : World}, Ref (fun i => K i ∨ i = w.heap.size) w1 q O2 → Ref K w1 q O2 := fun h => h.widen (K' := K) (fun i hi _ => .inl hi)
  cases y with
  | false =>
    have hr : res = 70 := HR.out
    subst hr
    go_wp2
    go_ret
    exact ⟨rfl, hnarr h3, c3⟩
  | true =>
  by_cases hv : t.v = v
  · have n1 : ((t.v : Int) != (v : Int)) = false := by simp [hv]
    have n2 : (t.v != v) = false := by simp [hv]
    by_cases he : t.e < e
    · have g1 : (t.e : Int) < (e : Int) := by omega
      have hr : res = 72 := by rw [HR.out, if_pos rfl, if_pos hv, if_pos he]
      subst hr
      clear hv
      go_wp2
      go_ret
      exact ⟨rfl, hnarr h3, c3⟩
    · have g1 : decide ((t.e : Int) < (e : Int)) = false := by rw [decide_eq_false_iff_not]; omega
      have g2 : decide (t.e < e) = false := by rw [decide_eq_false_iff_not]; omega
      have hr : res = if covers t.r want then 0 else 73 := by rw [HR.out, if_pos rfl, if_pos hv, if_neg he]
      have HS := Lib.hid hr
      clear HR hv he hr q0 q1 q2 q3 q4
      go_wp2
      go_loopw [5] (fun vw wr => ∃ wa ra : Nat, vw = .int .u64 (wa : Int) ∧ wa < 18446744073709551616 ∧ ra < 18446744073709551616 ∧ covers t.r want = covers ra wa ∧ Box w.heap.size wr #[.int .u64 (t.n : Int), .int .u64 (t.v : Int), .int .u64 (t.e : Int), .int .u64 (ra : Int), .int .u64 (t.g : Int)] 24 ∧ Ref (fun i => K i ∨ i = w.heap.size) wr q O2 ∧ Fr K w wr)
        (fun vw wr => (intOf vw).toNat + cellNat wr ⟨w.heap.size, 3, none⟩)
      case atStart => exact ⟨want, t.r, rfl, hw, hr64, rfl, B3, h3, c3⟩
      case round =>
        clear B3 h3 c3
        obtain ⟨wa, ra, rfl, hwa, hra, hcov, B, h, c⟩ := hrel
        have hh := covers_half hra hwa
        have q3 := B.cell (j := 3) rfl
        have f3 := B.frozen 3
        have qm : cellNat wr ⟨w.heap.size, 3, none⟩ = ra := by unfold cellNat; rw [q3]; simp
        have Hm := Lib.hid qm
        have hq1 : (wa : Int) / 2 = ((wa / 2 : Nat) : Int) := by omega
        have hq2 : (ra : Int) / 2 = ((ra / 2 : Nat) : Int) := by omega
        have B2 := B.set 3 (.int .u64 ((ra : Int) / 2))
        rw [hq2] at B2
        have B2 : Box w.heap.size (wr.setCell ⟨w.heap.size, 3, none⟩ (.int .u64 ((ra / 2 : Nat) : Int))) #[.int .u64 (t.n : Int), .int .u64 (t.v : Int), .int .u64 (t.e : Int), .int .u64 ((ra / 2 : Nat) : Int), .int .u64 (t.g : Int)] 24 := B2
        have h2 : Ref (fun i => K i ∨ i = w.heap.size) (wr.setCell ⟨w.heap.size, 3, none⟩ (.int .u64 ((ra / 2 : Nat) : Int))) q O2 := h.kept (fun i hi _ => heap_setCell_other wr ⟨w.heap.size, 3, none⟩ i _ (fun e => hi (.inr e)))
        have c2 := c.setCell (p := ⟨w.heap.size, 3, none⟩) (fun hh => absurd hh (Nat.lt_irrefl _)) (.int .u64 ((ra / 2 : Nat) : Int))
        have HG := Lib.hid (And.intro B2 (And.intro h2 c2))
        have HQ := Lib.hid (And.intro hq1 hq2)
        clear B2 h2 c2 hq1 hq2 qm B
        by_cases hz : wa = 0 ∧ ra = 0
        · obtain ⟨rfl, rfl⟩ := hz
          have hr0 : res = 0 := by rw [HS.out, hcov, covers_zero]; rfl
          subst hr0
          clear hh hcov HG HQ
          go_wp2
          go_ret
          exact ⟨rfl, hnarr h, c⟩
        · have Hz := Lib.hid hz
          by_cases hb : wa % 2 = 1 ∧ ra % 2 = 0
          · obtain ⟨hb1, hb2⟩ := hb
            have i1 : ((wa : Int) % 2 == 1) = true := by rw [beq_iff_eq]; omega
            have i2 : ((ra : Int) % 2 == 0) = true := by rw [beq_iff_eq]; omega
            have i3 : (0 : Int) < (wa : Int) := by omega
            have i4 : 0 < wa := by omega
            have hr0 : res = 73 := by rw [HS.out, hcov, hh, hb1, hb2]; rfl
            subst hr0
            clear hh hcov HG HQ hz hb1 hb2
            go_wp2
            go_ret
            exact ⟨rfl, hnarr h, c⟩
          · have hc2 : covers t.r want = covers (ra / 2) (wa / 2) := by
              rw [hcov, hh]
              have : (wa % 2 == 1 && ra % 2 == 0) = false := by
                rw [Bool.eq_false_iff]
                intro hx
                simp only [Bool.and_eq_true, beq_iff_eq] at hx
                exact hb hx
              rw [this]
              rfl
            have HC := Lib.hid hc2
            clear hh hcov hc2
            by_cases hw0 : 0 < wa
            · have i3 : (0 : Int) < (wa : Int) := by omega
              by_cases hw2 : wa % 2 = 1
              · have i1 : ((wa : Int) % 2 == 1) = true := by rw [beq_iff_eq]; omega
                have i2 : ((ra : Int) % 2 == 0) = false := by rw [beq_eq_false_iff_ne]; omega
                clear hz hb hw2
                go_wp2
                go_roundw
                case rel =>
                  refine ⟨wa / 2, ra / 2, by rw [← HQ.out.1], by omega, by omega, HC.out, ?_, ?_, ?_⟩
                  · exact HG.out.1
                  · exact HG.out.2.1
                  · exact HG.out.2.2
                case measure =>
                  have hm2 : cellNat (wr.setCell ⟨w.heap.size, 3, none⟩ (.int .u64 ((ra : Int) / 2))) ⟨w.heap.size, 3, none⟩ = ra / 2 := by rw [HQ.out.2]; unfold cellNat; rw [HG.out.1.cell (j := 3) rfl]; simp; omega
                  have := Hz.out
                  simp only [Hm.out]
                  simp [intOf, hm2]
                  omega
              · have i1 : ((wa : Int) % 2 == 1) = false := by rw [beq_eq_false_iff_ne]; omega
                clear hz hb hw2
                go_wp2
                go_roundw
                case rel =>
                  refine ⟨wa / 2, ra / 2, by rw [← HQ.out.1], by omega, by omega, HC.out, ?_, ?_, ?_⟩
                  · exact HG.out.1
                  · exact HG.out.2.1
                  · exact HG.out.2.2
                case measure =>
                  have hm2 : cellNat (wr.setCell ⟨w.heap.size, 3, none⟩ (.int .u64 ((ra : Int) / 2))) ⟨w.heap.size, 3, none⟩ = ra / 2 := by rw [HQ.out.2]; unfold cellNat; rw [HG.out.1.cell (j := 3) rfl]; simp; omega
                  have := Hz.out
                  simp only [Hm.out]
                  simp [intOf, hm2]
                  omega
            · have i3 : decide ((0 : Int) < (wa : Int)) = false := by rw [decide_eq_false_iff_not]; omega
              have i6 : decide (0 < wa) = false := by rw [decide_eq_false_iff_not]; omega
              have i1 : ((wa : Int) % 2 == 1) = false := by rw [beq_eq_false_iff_ne]; omega
              have i4 : 0 < ra := by omega
              have i5 : (0 : Int) < (ra : Int) := by omega
              clear hz hb hw0
              go_wp2
              go_roundw
              case rel =>
                refine ⟨wa / 2, ra / 2, by rw [← HQ.out.1], by omega, by omega, HC.out, ?_, ?_, ?_⟩
                · exact HG.out.1
                · exact HG.out.2.1
                · exact HG.out.2.2
              case measure =>
                have hm2 : cellNat (wr.setCell ⟨w.heap.size, 3, none⟩ (.int .u64 ((ra : Int) / 2))) ⟨w.heap.size, 3, none⟩ = ra / 2 := by rw [HQ.out.2]; unfold cellNat; rw [HG.out.1.cell (j := 3) rfl]; simp; omega
                have := Hz.out
                simp only [Hm.out]
                simp [intOf, hm2]
                omega
  · have n1 : ((t.v : Int) != (v : Int)) = true := by simp; omega
    have n2 : (t.v != v) = true := by simp; omega
    have hr : res = 71 := by rw [HR.out, if_pos rfl, if_neg hv]
    subst hr
    clear hv
    go_wp2
    go_ret
    exact ⟨rfl, hnarr h3, c3⟩
end Cap
end Go.Proofs.Ytbhdcocgghaifaa
