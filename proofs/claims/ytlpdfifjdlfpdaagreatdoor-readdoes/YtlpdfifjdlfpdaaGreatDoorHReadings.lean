/- Read and Write as the laws use them. -/
import Derived.Test.YtlpdfifjdlfpdaaGreatDoorGN
import Derived.Test.YtlpdfifjdlfpdaaGreatDoorHSameD
import Derived.Test.YtlpdfifjdlfpdaaGreatDoorHMuch
namespace Go.Proofs.YtlpdfifjdlfpdaaGreatDoor
open Go.RowKit

theorem readOf_err {l : List UInt8} (h : (readOf l).2.1 ≠ 0) : (readOf l).1 = .nil := by
  unfold readOf at h ⊢
  split
  · rename_i h0
    rw [if_pos h0] at h
    cases hX : rdf 3 ((items l).map Prod.fst) 0 0 with
    | ok f d r c => rw [hX] at h; exact absurd rfl h
    | bad e p => rfl
  · rfl
theorem read_rs (l : List UInt8) (hs : l.length ≤ 281474976710656) (w : World) (hE : EV w) :
    Calls Tryz.prog 7 #[.string ⟨l.toArray⟩] w fun e w' => Below w.heap.size w w' ∧ ∃ ra cap, e = .returned (.tuple #[.slice ra (readOf l).1.len cap, .int .i64 (readOf l).2.1, .int .i64 (readOf l).2.2]) ∧ RS w' ra (readOf l).1 ∧ (readOf l).1.len ≤ maxLen := by
  have h := read_any ⟨l.toArray⟩ (by show l.toArray.size ≤ _; simpa using hs) w hE
  rw [show (ByteArray.mk l.toArray).data.toList = l by simp] at h
  refine h.mono ?_
  rintro e w' ⟨hb, v, rfl, hT⟩
  obtain ⟨ra, cap, rfl, hR, hl⟩ := hT.rs
  exact ⟨hb, ra, cap, rfl, hR, hl⟩
/-- What was read is written. -/
theorem write_back (l : List UInt8) (h : (readOf l).2.1 = 0) (ra : Option Addr) (ca : Nat) (w : World) (hm : (readOf l).1.len ≤ maxLen) (hR : RS w ra (readOf l).1) (hE : EV w) (hT : TB w) :
    Calls Tryz.prog 14 #[.slice ra (readOf l).1.len ca] w fun e w' => (if 65536 < (linesT (textsT (readOf l).1)).length then e = .returned (.tuple #[.string ⟨#[]⟩, .int .i64 2]) else e = .returned (.tuple #[.string ⟨(linesT (textsT (readOf l).1)).toArray⟩, .int .i64 0])) ∧ Below w.heap.size w w' := by
  have hc := read_chk h
  obtain ⟨hD, _, hsz⟩ := chk_zero.1 hc
  refine (write_fn ra ca _ w hm (by omega) (allD_tx _ hD) hR hE hT).mono ?_
  rintro e w' ⟨rfl, hb⟩
  refine ⟨?_, hb⟩
  have e : writeOf (readOf l).1 = if 65536 < (linesT (textsT (readOf l).1)).length then ([], 2) else (linesT (textsT (readOf l).1), 0) := by
    unfold writeOf
    rw [if_neg (by simp [hc])]
  rw [e]
  by_cases hx : 65536 < (linesT (textsT (readOf l).1)).length
  · rw [if_pos hx, if_pos hx]
  · rw [if_neg hx, if_neg hx]
end Go.Proofs.YtlpdfifjdlfpdaaGreatDoor
