/- ReadBoth: what its pieces are made of. -/
import Derived.Test.YtinpjpcokjfinaaDoorHAppData
import Derived.Test.YtinpjpcokjfinaaDoorHBothAll
import Derived.Test.YtinpjpcokjfinaaDoorHTailCat
import Derived.Deep.DeepCutAuto
namespace Go.Proofs.YtinpjpcokjfinaaDoor
open Go.RowKit

theorem Fo.len_le_size : ∀ (f : Fo), f.len ≤ f.size
  | .nil => Nat.le_refl _
  | .cons k n t s d r => by have := Fo.len_le_size r; simp only [Fo.len, Fo.size]; omega
/-- Read, of a text of which what is told is known. -/
theorem read_b (s : ByteArray) {F : Fo} {e p : Int} (h : readOf s.data.toList = (F, e, p)) (hs : s.size ≤ 281474976710656) (w : World) (hE : EV w) :
    Calls Tryd.prog 10 #[.string s] w fun x w' => Below w.heap.size w w' ∧ ∃ ra cap, x = .returned (.tuple #[.slice ra F.len cap, .int .i64 e, .int .i64 p]) ∧ RS w' ra F ∧ F.len ≤ maxLen ∧ (ra = none → F.len = 0 ∧ cap = 0) := by
  have := read_any s hs w hE
  rw [h] at this
  refine this.mono ?_
  rintro x w' ⟨hb, v, rfl, hT⟩
  obtain ⟨ra, cap, rfl, hR, hl⟩ := hT.rs
  refine ⟨hb, ra, cap, rfl, hR, hl, fun hn => ?_⟩
  obtain ⟨cs, bs, ho, _⟩ := hT.ex
  rcases ho.2 with ⟨hv, h0⟩ | ⟨g', cap', cur, hv, _⟩
  · simp only [Value.slice.injEq] at hv
    exact ⟨hv.2.1, hv.2.2⟩
  · simp only [Value.slice.injEq] at hv
    rw [hn] at hv
    cases hv.1
theorem read_size {l : List UInt8} {F : Fo} {p : Int} (h : readOf l = (F, 0, p)) : F.len ≤ 20000 := by
  have := read_chk (l := l) (by rw [h])
  rw [h] at this
  have h2 := (chk_zero.1 this).2.2
  have h3 := F.len_le_size
  dsimp only at h2
  omega
/-- Tokens, of a text whose errors are none. -/
theorem tokens_f (s : ByteArray) (hs : s.size ≤ 281474976710656) (w : World) (hE : EV w) (hf : fine (items s.data.toList)) :
    Calls Tryd.prog 12 #[.string s] w fun e w' => Below w.heap.size w w' ∧ ∃ g cap, e = .returned (.tuple #[.slice (some ⟨g, 0, none⟩) (items s.data.toList).length cap, .int .i64 0, .int .i64 0]) ∧ TRow w' g (items s.data.toList) := by
  refine (tokens_any s hs w hE).mono ?_
  rintro e w' ⟨hb, ⟨v, rfl, _, hrow⟩ | ⟨q, x, hp, _, hx, rfl⟩⟩
  · obtain ⟨g, cap, rfl, _, ht⟩ := trow_of (items_ne _) hrow
    exact ⟨hb, g, cap, rfl, ht⟩
  · exfalso
    obtain ⟨r, hr⟩ := hp
    exact hx (hf x (by rw [← hr]; simp))
/-- .. of a text with an error. -/
theorem tokens_e (s : ByteArray) (hs : s.size ≤ 281474976710656) (w : World) (hE : EV w) (hf : ¬ fine (items s.data.toList)) :
    Calls Tryd.prog 12 #[.string s] w fun e w' => Below w.heap.size w w' ∧ ∃ er p, e = .returned (.tuple #[.slice none 0 0, .int .i64 er, .int .i64 p]) ∧ er ≠ 0 := by
  refine (tokens_any s hs w hE).mono ?_
  rintro e w' ⟨hb, ⟨v, rfl, hff, _⟩ | ⟨q, x, hp, _, hx, rfl⟩⟩
  · exact absurd hff hf
  · exact ⟨hb, _, _, rfl, hx⟩
theorem catB (s t : ByteArray) : ∃ u : ByteArray, s ++ ⟨#[10]⟩ ++ t = u ∧ u.data.toList = s.data.toList ++ 10 :: t.data.toList ∧ u.size = s.size + t.size + 1 := by
  have h : (s ++ ⟨#[10]⟩ ++ t).data.toList = s.data.toList ++ 10 :: t.data.toList := by rw [Joins.data_append, Joins.data_append]; simp
  refine ⟨_, rfl, h, ?_⟩
  have := congrArg List.length h
  simp only [List.length_append, List.length_cons, Array.length_toList] at this
  show (s ++ ⟨#[10]⟩ ++ t).data.size = s.data.size + t.data.size + 1
  omega
end Go.Proofs.YtinpjpcokjfinaaDoor
