/-
  The laws' fixed calls.
-/
import Derived.Test.YtbhdcocgghaifaaIdF
import Derived.Laws.Strings
namespace Go.Proofs.Ytbhdcocgghaifaa
open Go.RowKit Go.Maps
open Ideal

namespace Ida
theorem Rd_under {w w' : World} {v : Value} {xs : List Value} {B : Nat} (h : Kit.Rd w v xs) (hv : ∀ k, v.ownBlock = some k → k < B) (hb : Below B w w') : Kit.Rd w' v xs := by
  obtain ⟨a, cap, rfl, h⟩ := h
  refine ⟨a, cap, rfl, ?_⟩
  rcases h with h | ⟨ad, rfl, hc⟩
  · exact .inl h
  · refine .inr ⟨ad, rfl, fun j u hu => ?_⟩
    rw [hb.cell (by rw [Kit.add_block]; exact hv _ rfl)]
    exact hc j u hu
/-- An oracle that lies under a block's number stays while what is from there on turns. -/
theorem Orc.under {w w' : World} {L : Lay} {O : Or} {A B : Nat} (h : Orc w L O) (hin : L.within A B) (hb : Below B w w') : Orc w' L O :=
  ⟨h.1.kept (fun i hi => hb.block i (hin.own i hi).2) (Rd_under h.1.dr (fun k hk => (hin.dv k hk).2) hb), h.2⟩
theorem bytes_inj {A B : ByteArray} (h : A.toList = B.toList) : A = B := by
  rw [ByteArray.toList_eq, ByteArray.toList_eq] at h
  exact ByteArray.ext (Array.ext' h)
theorem Orc.drew {w : World} {M : Lay} {O : Or} (h : Orc w M O) : Orc w.drew M O := ⟨h.1.drew, h.2⟩
/-- A slice of numbers that was just laid. -/
theorem laid_sl (w : World) (l : List Nat) (T : TypeId) : Kit.Sl (w.alloc (.cells (nums l).toArray T)) (.slice (some ⟨w.heap.size, 0, none⟩) (nums l).length (nums l).length) (nums l) := by
  refine .inr ⟨_, _, rfl, fun j u hu => ?_⟩
  have hb : (w.alloc (.cells (nums l).toArray T)).heap[w.heap.size]? = some (.cells (nums l).toArray T (0, 0)) := (MapKept.heap_alloc w _).1
  have hadd : (⟨w.heap.size, 0, none⟩ : Addr).add j = ⟨w.heap.size, j, none⟩ := by unfold Addr.add; split <;> simp_all
  rw [hadd, Lib.cell_of_heap hb]
  simpa using hu

def sa : ByteArray := ⟨#[97]⟩
def sb : ByteArray := ⟨#[98]⟩
def F4 : Or := (((Or.new [7, 9]).ask (qh sa)).ask (qh sb)).ask (qh sa)
def G3 : Or := ((Or.new [7, 7]).ask (qh sa)).ask (qh sb)
def H3 : Or := ((Or.new [7]).meet 7).ask (qh sa)
theorem f1 : (Or.new [7, 9]).val (qh sa) = 7 := rfl
theorem f2 : ((Or.new [7, 9]).ask (qh sa)).val (qh sb) = 9 := by decide +kernel
theorem f3 : (((Or.new [7, 9]).ask (qh sa)).ask (qh sb)).val (qh sa) = 7 := by decide +kernel
theorem f4 : F4.next = 9223372036854775810 := by decide +kernel
theorem f5 : (F4.draw q0).bads = 0 := by decide +kernel
theorem f6 : (F4.draw q0).rows.length = 3 := by decide +kernel
theorem f7 : decide (0 < G3.bads) = true := by decide +kernel
theorem f8 : decide (0 < H3.bads) = true := by decide +kernel

end Ida
end Go.Proofs.Ytbhdcocgghaifaa
