/- What reaches needs: what stays, what is read of each list. -/
import Derived.Test.YtdcmkifljcdmmaaGreatDoorHHBookPut
import Derived.Test.YtdcmkifljcdmmaaGreatDoorHHBookOwn
import Derived.Test.YtdcmkifljcdmmaaGreatDoorHHMath
import Derived.Test.YtdcmkifljcdmmaaGreatDoorGC
namespace Go.Proofs.YtdcmkifljcdmmaaGreatDoor
open Go.RowKit

/-- All that is not F stays. -/
def SmK (F : Nat → Prop) (w w' : World) : Prop := w.heap.size ≤ w'.heap.size ∧ ∀ g, g < w.heap.size → ¬ F g → w'.heap[g]? = w.heap[g]?
theorem SmK.of {F : Nat → Prop} {w w' : World} (h : Below w.heap.size w w') : SmK F w w' := ⟨h.size, fun g hg _ => h.block g hg⟩
def HRk (F : Nat → Prop) (w : World) (ra : Option Addr) (l : List Cl) : Prop := ∀ w', SmK F w w' → HR w' ra l
def WRk (F : Nat → Prop) (w : World) (ra : Option Addr) (l : List Int) : Prop := ∀ w', SmK F w w' → WR w' ra l
theorem not_rw {t : TypeId} (h : t = 4 ∨ t = 3 ∨ t = 55 ∨ t = 53) : ¬ Rw t := by
  rintro (e | ⟨k, hk, e⟩)
  · rcases h with rfl | rfl | rfl | rfl <;> exact absurd e (by decide)
  · rcases h with rfl | rfl | rfl | rfl <;> rcases hk with rfl | rfl | rfl | rfl <;> exact absurd e (by decide)
theorem DR.kpb {W W' : World} {t g n : Nat} {P : Nat → Value → Prop} (h : DR W t g n P) (hk : KpB W W') (ht : ¬ Rw t) : DR W' t g n P := by
  obtain ⟨cs, h1, h2⟩ := h
  exact ⟨cs, (hk.2 g cs t h1 ht).trans h1, h2⟩
theorem own_kpb {W W' : World} {base e size n : Nat} {v : Value} {xs : List Value} (h : W.ownsRow base e size v n xs) (hk : KpB W W') (ht : ¬ Rw e) : W'.ownsRow base e size v n xs := own_same h (fun g hg => by
  obtain ⟨cs, hc⟩ := own_blk h hg
  exact hk.2 g cs e hc ht)
theorem dr_owns {W : World} {t g n sz : Nat} {P : Nat → Value → Prop} (h : DR W t g (n * sz) P) (hn : n ≤ maxLen) : ∃ xs, W.ownsRow 0 t sz (.slice (some ⟨g, 0, none⟩) n n) n xs := by
  obtain ⟨cs, h1, h2, _⟩ := h
  exact ⟨cs.toList, own_of h1 h2 (Nat.le_refl _) hn (Nat.zero_le _) (by simpa using h2) (fun k u hk => by simpa using hk)⟩
theorem drr_rx {α : Type} {enc : α → Value} {W : World} {t g n : Nat} {f : Nat → α} (h : DR W t g n (fun k u => u = enc (f k))) : RX enc W (some ⟨g, 0, none⟩) ((List.range n).map f) := by
  refine ⟨g, 0, .inr rfl, fun j x hx => ⟨h.lt, ?_⟩⟩
  have hj : j < n := by have := (List.getElem?_eq_some_iff.1 hx).1; simpa using this
  rw [List.getElem?_map, List.getElem?_range hj] at hx
  obtain ⟨u, hu, e⟩ := h.cell hj
  rw [Nat.zero_add, hu, e]
  congr 2
  exact Option.some.inj hx
theorem dr_hx {W : World} {g : Nat} {l : List Cl} (h : DR W 55 g (l.length * 4) (fun k u => (clCells l)[k]? = some u)) : HX W (some ⟨g, 0, none⟩) l := by
  refine ⟨g, 0, .inr rfl, fun j x hx => ⟨h.lt, ?_⟩⟩
  have hj := (List.getElem?_eq_some_iff.1 hx).1
  obtain ⟨q0, q1, q2, q3⟩ := clCells_at l j x hx
  have e : ∀ (k : Nat) (v : Value), k < l.length * 4 → (clCells l)[k]? = some v → W.cell? ⟨g, k, none⟩ = some v := fun k v hk hv => by
    obtain ⟨u, hu, hu2⟩ := h.cell hk
    rw [hu, ← hu2, hv]
  simp only [Nat.zero_add]
  exact ⟨e _ _ (by omega) q0, e _ _ (by omega) q1, e _ _ (by omega) q2, e _ _ (by omega) q3⟩
theorem dr_mx {W : World} {g : Nat} {l : List Int} {f : Int → Int} (h : DR W 53 g l.length (fun k u => ∀ x, l[k]? = some x → u = .int .u64 (f x))) : RX (Value.int .u64) W (some ⟨g, 0, none⟩) (l.map f) := by
  refine ⟨g, 0, .inr rfl, fun j x hx => ⟨h.lt, ?_⟩⟩
  rw [List.getElem?_map] at hx
  obtain ⟨y, hy, rfl⟩ := Option.map_eq_some_iff.1 hx
  obtain ⟨u, hu, e⟩ := h.cell (List.getElem?_eq_some_iff.1 hy).1
  rw [Nat.zero_add, hu, e y hy]
theorem HR.ok {w : World} {ra : Option Addr} {l : List Cl} (h : HR w ra l) : ∀ x ∈ l, OkK x := fun x hx => by
  obtain ⟨b, o, _, h2⟩ := h
  obtain ⟨j, hj⟩ := List.getElem?_of_mem hx
  exact (h2 j x hj).2.2
theorem WR.ok {w : World} {ra : Option Addr} {l : List Int} (h : WR w ra l) : ∀ x ∈ l, Rng x := fun x hx => by
  obtain ⟨b, o, _, h2⟩ := h
  obtain ⟨j, hj⟩ := List.getElem?_of_mem hx
  exact (h2 j x hj).2.2
theorem okH_of {h : List Cl} {l : List Int} (hok : heapB h l = true) (hk : ∀ x ∈ h, OkK x) : OkH h := fun x hx hk0 => by
  have := own_fits false ((heap_ok hok).1 x hx) hk0
  exact ⟨⟨this.1, (hk x hx).a⟩, this.2, (hk x hx).b⟩
/-- The book as it has grown since w; s: how many blocks there were when the lists had been made; L: the lists' blocks. -/
structure AS (w W : World) (s b : Nat) (c : Nat → Value) (N : Nat → Nat) (V : Nat → Nat → Value) (c' : Nat → Value) (N' : Nat → Nat) (V' : Nat → Nat → Value) (L : Nat → Prop) : Prop where
  bk : Bk W b c' N' V' Fo
  gr : ∀ g, BkF b c' N' V' Fo g → BkF b c N V Fo g ∨ L g ∨ s ≤ g
  bel : Below 0 w W
  st : ∀ g, g < w.heap.size → ¬ BkF b c N V Fo g → W.heap[g]? = w.heap[g]?
  sz : s ≤ W.heap.size
  lo : ∀ g, L g → w.heap.size ≤ g
  ws : w.heap.size ≤ s
theorem AS.below {w W W' : World} {s b : Nat} {c : Nat → Value} {N : Nat → Nat} {V : Nat → Nat → Value} {c' : Nat → Value} {N' : Nat → Nat} {V' : Nat → Nat → Value} {L : Nat → Prop} (h : AS w W s b c N V c' N' V' L) (hb : Below W.heap.size W W') : AS w W' s b c N V c' N' V' L :=
  ⟨h.bk.below hb, h.gr, h.bel.trans (hb.mono (Nat.zero_le _)), fun g hg hn => (hb.block g (Nat.lt_of_lt_of_le hg h.bel.size)).trans (h.st g hg hn), Nat.le_trans h.sz hb.size, h.lo, h.ws⟩
theorem AS.smk {w W : World} {s b : Nat} {c : Nat → Value} {N : Nat → Nat} {V : Nat → Nat → Value} {c' : Nat → Value} {N' : Nat → Nat} {V' : Nat → Nat → Value} {L : Nat → Prop} (h : AS w W s b c N V c' N' V' L) : SmK (BkF b c N V Fo) w W := ⟨h.bel.size, h.st⟩
theorem AS.put {w W W' : World} {s b : Nat} {c : Nat → Value} {N : Nat → Nat} {V : Nat → Nat → Value} {c' : Nat → Value} {N' : Nat → Nat} {V' : Nat → Nat → Value} {L : Nat → Prop} (h : AS w W s b c N V c' N' V' L) {k : Nat} {l v' : Value} (p : PutR W W' b c' N' V' k l v') (hl : ∀ g, l.ownBlock = some g → w.heap.size ≤ g) :
    AS w W' s b c N V (upd c' k v') (upd N' k (N' k + 1)) (upd V' k (fun j => if j = N' k then l else V' k j)) (fun g => L g ∨ l.ownBlock = some g) := by
  refine ⟨p.bk, fun g hg => ?_, h.bel.trans p.kp.1, fun g hg hn => ?_, Nat.le_trans h.sz p.kp.1.size, fun g hg => ?_, h.ws⟩
  · rcases p.gr g hg with h' | h' | h'
    · rcases h.gr g h' with h2 | h2 | h2
      · exact .inl h2
      · exact .inr (.inl (.inl h2))
      · exact .inr (.inr h2)
    · exact .inr (.inl (.inr h'))
    · exact .inr (.inr (Nat.le_trans h.sz h'))
  · refine (p.st g (Nat.lt_of_lt_of_le hg h.bel.size) (fun hF => ?_)).trans (h.st g hg hn)
    rcases h.gr g hF with h2 | h2 | h2
    · exact hn h2
    · have := h.lo g h2; omega
    · have := h.ws; omega
  · rcases hg with hg | hg
    · exact h.lo g hg
    · exact hl g hg
/-- A list that is none of the book's. -/
theorem AS.far {w W : World} {s b : Nat} {c : Nat → Value} {N : Nat → Nat} {V : Nat → Nat → Value} {c' : Nat → Value} {N' : Nat → Nat} {V' : Nat → Nat → Value} {L : Nat → Prop} (h : AS w W s b c N V c' N' V' L) (h0 : Bk w b c N V Fo) {l : Value} (hl : ∀ g, l.ownBlock = some g → w.heap.size ≤ g ∧ g < s ∧ ¬ L g) : ∀ g, l.ownBlock = some g → ¬ BkF b c' N' V' Fo g := fun g hg hF => by
  obtain ⟨h1, h2, h3⟩ := hl g hg
  rcases h.gr g hF with h' | h' | h'
  · have := h0.lt g h'; omega
  · exact h3 h'
  · omega
/-- What reaches leaves. -/
def ReR (w w' : World) (b : Nat) (c : Nat → Value) (N : Nat → Nat) (V : Nat → Nat → Value) : Prop := ∃ c' N' V', Bk w' b c' N' V' Fo ∧ (∀ k, N' k ≤ N k + 1) ∧ (∀ g, BkF b c' N' V' Fo g → BkF b c N V Fo g ∨ w.heap.size ≤ g) ∧ Below 0 w w' ∧ ∀ g, g < w.heap.size → ¬ BkF b c N V Fo g → w'.heap[g]? = w.heap[g]?
theorem AS.rer {w W : World} {s b : Nat} {c : Nat → Value} {N : Nat → Nat} {V : Nat → Nat → Value} {c' : Nat → Value} {N' : Nat → Nat} {V' : Nat → Nat → Value} {L : Nat → Prop} (h : AS w W s b c N V c' N' V' L) (hn : ∀ k, N' k ≤ N k + 1) : ReR w W b c N V :=
  ⟨c', N', V', h.bk, hn, fun g hg => by
    rcases h.gr g hg with h' | h' | h'
    · exact .inl h'
    · exact .inr (h.lo g h')
    · exact .inr (Nat.le_trans h.ws h'), h.bel, h.st⟩
theorem four_upd (N : Nat → Nat) (k : Nat) : upd (upd (upd (upd N 16 (N 16 + 1)) 2 (upd N 16 (N 16 + 1) 2 + 1)) 6 (upd (upd N 16 (N 16 + 1)) 2 (upd N 16 (N 16 + 1) 2 + 1) 6 + 1)) 5 (upd (upd (upd N 16 (N 16 + 1)) 2 (upd N 16 (N 16 + 1) 2 + 1)) 6 (upd (upd N 16 (N 16 + 1)) 2 (upd N 16 (N 16 + 1) 2 + 1) 6 + 1) 5 + 1) k ≤ N k + 1 := by
  unfold upd
  by_cases h5 : k = 5
  · subst h5; simp
  · by_cases h6 : k = 6
    · subst h6; simp
    · by_cases h2 : k = 2
      · subst h2; simp
      · by_cases h1 : k = 16
        · subst h1; simp
        · simp [h5, h6, h2, h1]
end Go.Proofs.YtdcmkifljcdmmaaGreatDoor
