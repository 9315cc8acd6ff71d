/- What the walk of FormsBinds calls besides. -/
import Derived.Test.YtkgnigloboajcabGreatDoorFBindM
import Derived.Deep.QuietTactic
import Derived.BigQuiet
namespace Go.Proofs.YtkgnigloboajcabGreatDoor
open Go.RowKit

/-- Names that are owned: where they lie, how many they may be. -/
theorem own_rnc {w : World} {base : Nat} {v : Value} {l : List (List UInt8)} (h : w.ownsRow base 9 1 v l.length (l.map S)) : ∃ ra c, v = .slice ra l.length c ∧ RN w ra l ∧ l.length ≤ c ∧ l.length ≤ maxLen := by
  obtain ⟨ra, c, hv, hr⟩ := own_rn h
  obtain ⟨ra', c', hv', h1, h2⟩ := own_cap h
  rw [hv] at hv'
  cases hv'
  exact ⟨ra, c, hv, hr, h1, h2⟩

set_option maxRecDepth 100000 in
set_option maxHeartbeats 4000000 in
theorem among_none (l : List (List UInt8)) (s : List UInt8) (ra : Option Addr) (ca : Nat) (w : World) (hm : l.length ≤ maxLen) (hR : RX S w ra l) (hn : s ∉ l) :
    Calls Tryz.prog 9 #[.slice ra l.length ca, S s] w fun e w' => e = .returned (.bool false) ∧ w' = w := by
  obtain ⟨b, o, h1, h2⟩ := RX.at hR
  have H1 : Hid _ := h1
  have H2 : Hid _ := h2
  have HN : Hid (s ∉ l) := hn
  unfold maxLen at hm
  clear h1 h2 hR hn
  go_enter Tryz.func9, Tryz.ntmps9
  go_upto_region 2 with fail
  go_loopw [5] (fun v wr => ∃ j : Nat, v = .int .i64 j ∧ j ≤ l.length ∧ wr = w) (fun v _ => l.length - (intOf v).toNat)
  case atStart => exact ⟨0, rfl, Nat.zero_le _, rfl⟩
  case round =>
    obtain ⟨j, rfl, hj, rfl⟩ := hrel
    by_cases hlt : j < l.length
    · have i1 : (j : Int) < (l.length : Int) := by omega
      have hra := H1.out (by omega)
      subst hra
      obtain ⟨x, hx⟩ : ∃ x, l[j]? = some x := ⟨_, List.getElem?_eq_getElem hlt⟩
      obtain ⟨hb, hc⟩ := H2.out j x hx
      have he : x ≠ s := fun e => HN.out (e ▸ List.mem_of_getElem? hx)
      have h2 : (x == s) = false := beq_eq_false_iff_ne.2 he
      clear hx he
      go_wp2_with fail
      go_roundw
      case rel => exact ⟨j + 1, by go_num, by omega, trivial⟩
      case measure => simp [intOf]; omega
    · have i1 : ¬ (j : Int) < (l.length : Int) := by omega
      go_wp2_with fail
      go_ret
      exact ⟨rfl, rfl⟩
theorem rx_take {w : World} {ra : Option Addr} {l : List (List UInt8)} (h : RX S w ra l) (j : Nat) : RX S w ra (l.take j) := by
  obtain ⟨b, o, h1, h2⟩ := h
  refine ⟨b, o, ?_, fun i x hx => h2 i x ?_⟩
  · rcases h1 with h1 | h1
    · exact .inl (by rw [List.length_take, h1]; simp)
    · exact .inr h1
  · rw [List.getElem?_take] at hx
    split at hx
    · exact hx
    · cases hx
theorem nodup_take {l : List (List UInt8)} (h : l.Nodup) {j : Nat} {x : List UInt8} (hx : l[j]? = some x) : x ∉ l.take j := by
  intro hm
  obtain ⟨i, hi⟩ := List.getElem?_of_mem hm
  rw [List.getElem?_take] at hi
  split at hi
  · rename_i hij
    obtain ⟨l1, e1⟩ := List.getElem?_eq_some_iff.1 hi
    obtain ⟨l2, e2⟩ := List.getElem?_eq_some_iff.1 hx
    have := (List.getElem_inj (h₀ := l1) (h₁ := l2) h).1 (e1.trans e2.symm)
    omega
  · cases hi
abbrev Gv (n : List (List UInt8)) (rn : Option Addr) (cn b : Nat) : Array Value := #[.int .u8 4, .string ⟨#[]⟩, .slice rn n.length cn, .slice (some ⟨b, 0, none⟩) 1 1, .int .u8 0, .int .i64 0, .string ⟨#[]⟩, .slice none 0 0, .bool false]
theorem lam_made {f : Frm} {n : List (List UInt8)} {rn nr kr dr : Option Addr} {nc kc dc cn : Nat} {W : World} (hR : RFo W f nr kr dr) (hk : f.kids.len ≤ kc) (hN : RN W rn n) (W9 : World)
    (h9 : (W.alloc (Z9 f (.slice nr f.names.length nc) (.slice kr f.kids.len kc) (.slice dr f.dat.s.len dc))).alloc (.cells (Gv n rn cn W.heap.size) 30) = W9) :
    Below W.heap.size W W9 ∧ W9.heap[W.heap.size + 1]? = some (.cells (Gv n rn cn W.heap.size) 30 (0, 0)) ∧ RFo W9 ⟨4, [], n, f.fm .nil, dt0⟩ rn (some ⟨W.heap.size, 0, none⟩) none := by
  subst h9
  have q9 : ((W.alloc (Z9 f (.slice nr f.names.length nc) (.slice kr f.kids.len kc) (.slice dr f.dat.s.len dc))).alloc (.cells (Gv n rn cn W.heap.size) 30)).heap[W.heap.size + 1]? = some (.cells (Gv n rn cn W.heap.size) 30 (0, 0)) := by
    have := World.alloc_heap_new (W.alloc (Z9 f (.slice nr f.names.length nc) (.slice kr f.kids.len kc) (.slice dr f.dat.s.len dc))) (.cells (Gv n rn cn W.heap.size) 30)
    rwa [World.size_alloc] at this
  have q7 : ((W.alloc (Z9 f (.slice nr f.names.length nc) (.slice kr f.kids.len kc) (.slice dr f.dat.s.len dc))).alloc (.cells (Gv n rn cn W.heap.size) 30)).heap[W.heap.size]? = some (Z9 f (.slice nr f.names.length nc) (.slice kr f.kids.len kc) (.slice dr f.dat.s.len dc)) :=
    (Below.heap_alloc _ _ _ (by simp)).trans (World.alloc_heap_new W _)
  have hb : Below W.heap.size W ((W.alloc (Z9 f (.slice nr f.names.length nc) (.slice kr f.kids.len kc) (.slice dr f.dat.s.len dc))).alloc (.cells (Gv n rn cn W.heap.size) 30)) := ((Below.refl _ W).alloc (Nat.le_refl _) _).alloc (by simp) _
  obtain ⟨⟨c0, c1, c2, c3, c4, c5, c6, c7, c8⟩, _⟩ := cells9 q7
  have hR9 := hR.below hb
  obtain ⟨kb, ko, hz, hrd⟩ := hR9.k
  exact ⟨hb, q9, ⟨hN.below hb, ⟨W.heap.size, 0, .inr rfl, ⟨⟨c0, c1, c4, c5, c6, c8⟩, ⟨nr, nc, kr, kc, dr, dc, ⟨c2, c3, c7⟩, hR9.n, ⟨hk, kb, ko, hz, hrd⟩, hR9.d⟩, trivial⟩⟩, rs_nil _ _⟩⟩
end Go.Proofs.YtkgnigloboajcabGreatDoor
