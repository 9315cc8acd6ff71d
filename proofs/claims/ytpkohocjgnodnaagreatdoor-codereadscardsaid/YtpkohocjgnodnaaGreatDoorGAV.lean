/- The document's behind.; Rows in memory, cell by cell.; How the document's walk over depths stands in memory. -/
import Derived.Test.YtpkohocjgnodnaaGreatDoorGAR
import Derived.Test.YtpkohocjgnodnaaGreatDoorGAS
import Derived.Test.YtpkohocjgnodnaaGreatDoorGAT
import Derived.Test.YtpkohocjgnodnaaGreatDoorHZArg
import Derived.OwnWalk
import Derived.Deep.AppendLies
import Derived.Deep.RegionHeld3
import Derived.Deep.RegionLaw
import Derived.Deep.QuietTactic
import Derived.Deep.Cut
import Derived.WalkSpells
import Derived.WalkLawsBesides
import Derived.Lib.SliceRun
import Derived.Laws.IdiomCopy
import Derived.Maps.AppendAt
import Derived.BigQuiet
/- The document's behind. -/
namespace Go.Proofs.YtpkohocjgnodnaaGreatDoor
open Go.RowKit

/-- Numbers in a row that was made since there were s blocks. -/
def IX (s : Nat) (w : World) (ra : Option Addr) (l : List Nat) : Prop := ∀ (j : Nat) (x : Nat), l[j]? = some x → ∃ b, ra = some ⟨b, 0, none⟩ ∧ s ≤ b ∧ b < w.heap.size ∧ w.cell? ⟨b, j, none⟩ = some (.int .i64 (x : Int))
theorem ix_of {W : World} {vs : Array Value} {t : TypeId} {l : List Nat} {b s : Nat} (hv : vs.toList = l.map (fun (k : Nat) => Value.int .i64 (k : Int))) (hb : b = W.heap.size) (hs : s ≤ W.heap.size) : IX s (W.alloc (.cells vs t)) (some ⟨b, 0, none⟩) l := by
  subst hb
  refine fun j x hx => ⟨W.heap.size, rfl, hs, by simp, ?_⟩
  have hn := heap_alloc_new W (.cells vs t)
  simp only [World.cell?, hn]
  have : vs.toList[j]? = some (.int .i64 (x : Int)) := by rw [hv, List.getElem?_map, hx]; rfl
  simpa using this
set_option maxRecDepth 100000 in
set_option maxHeartbeats 8000000 in
theorem dBehind_any (code : List Ins) (pm : Int) (p : Nat) (x : Ins) (ra : Option Addr) (cp : Nat) (w : World) (hl : code.length ≤ 4096) (hR : NR w ra code) (hx : code[p]? = some x) (hf : Fit code.length p x) :
    Calls Tryz.prog 103 #[.agg #[.int .i64 pm, .slice ra code.length cp], .int .i64 (p : Int)] w fun e w' => (∃ r c, e = .returned (.slice r (nxtL p x).length c) ∧ IX w.heap.size w' r (nxtL p x)) ∧ Below w.heap.size w w' := by
  have hp : p < code.length := (List.getElem?_eq_some_iff.1 hx).1
  obtain ⟨b, o, hor, hcs⟩ := hR
  obtain ⟨g1, y0, y1, k1, k2⟩ := hcs p x hx
  have hra : ra = some ⟨b, o, none⟩ := hor.resolve_left (by omega)
  subst hra
  have i1 : (p : Int) < (code.length : Int) := by omega
  have HJ : Hid (x.op = 8 ∨ x.op = 9 → ((x.a.toNat : Nat) : Int) = x.a) := fun h => by have := hf.j h; omega
  have HB : Hid (Below w.heap.size w ((w.alloc (.cells #[.int .i64 pm, .slice (some ⟨b, o, none⟩) code.length cp] 64)).alloc (.cells #[.int .u8 x.op, .int .i64 x.a] 79))) := ((Below.refl _ w).alloc (Nat.le_refl _) _).alloc (by simp) _
  have HB2 : Hid (∀ o2, Below w.heap.size w (((w.alloc (.cells #[.int .i64 pm, .slice (some ⟨b, o, none⟩) code.length cp] 64)).alloc (.cells #[.int .u8 x.op, .int .i64 x.a] 79)).alloc o2)) := fun o2 => HB.out.alloc HB.out.size _
  clear hor hcs hx hf k1 k2
  obtain ⟨op, a⟩ := x
  simp only at y0 y1 HJ HB HB2
  by_cases h12 : op = 12
  · have z : (op == 12) = true := by simp [h12]
    have HN : Hid (nxtL p ⟨op, a⟩ = []) := by show _ = _; simp [nxtL, h12]
    clear h12
    go_enter Tryz.func103, Tryz.ntmps103
    go_wp2
    go_ret
    rw [HN.out]
    exact ⟨⟨none, 0, rfl, fun j x hx => by simp at hx⟩, HB.out⟩
  have z12 : (op == 12) = false := beq_eq_false_iff_ne.2 h12
  by_cases h11 : op = 11
  · have z : (op == 11) = true := by simp [h11]
    have HN : Hid (nxtL p ⟨op, a⟩ = []) := by show _ = _; simp [nxtL, h11]
    clear h11 h12
    go_enter Tryz.func103, Tryz.ntmps103
    go_wp2
    go_ret
    rw [HN.out]
    exact ⟨⟨none, 0, rfl, fun j x hx => by simp at hx⟩, HB.out⟩
  have z11 : (op == 11) = false := beq_eq_false_iff_ne.2 h11
  by_cases h8 : op = 8
  · have z : (op == 8) = true := by simp [h8]
    have HN : Hid (nxtL p ⟨op, a⟩ = [a.toNat]) := by show _ = _; simp [nxtL, h8]
    have HJ2 : Hid (((a.toNat : Nat) : Int) = a) := HJ.out (.inl h8)
    clear h8 h11 h12
    go_enter Tryz.func103, Tryz.ntmps103
    go_wp2
    go_ret
    rw [HN.out]
    refine ⟨⟨_, 1, rfl, ?_⟩, HB2.out _⟩
    exact ix_of (by simp [HJ2.out]) (by simp) (by simp; omega)
  have z8 : (op == 8) = false := beq_eq_false_iff_ne.2 h8
  by_cases h9 : op = 9
  · have z : (op == 9) = true := by simp [h9]
    have HN : Hid (nxtL p ⟨op, a⟩ = [p + 1, a.toNat]) := by show _ = _; simp [nxtL, h9]
    have HJ2 : Hid (((a.toNat : Nat) : Int) = a) := HJ.out (.inr h9)
    clear h8 h9 h11 h12
    go_enter Tryz.func103, Tryz.ntmps103
    go_wp2
    go_ret
    rw [HN.out]
    refine ⟨⟨_, 2, rfl, ?_⟩, HB2.out _⟩
    exact ix_of (by simp [HJ2.out]) (by simp) (by simp; omega)
  have z9 : (op == 9) = false := beq_eq_false_iff_ne.2 h9
  have HN : Hid (nxtL p ⟨op, a⟩ = [p + 1]) := by show _ = _; simp [nxtL, h8, h9, h11, h12]
  clear h8 h9 h11 h12
  go_enter Tryz.func103, Tryz.ntmps103
  go_wp2
  go_ret
  rw [HN.out]
  refine ⟨⟨_, 1, rfl, ?_⟩, HB2.out _⟩
  exact ix_of (by simp) (by simp) (by simp; omega)
end Go.Proofs.YtpkohocjgnodnaaGreatDoor

/- Rows in memory, cell by cell. -/
namespace Go.Proofs.YtpkohocjgnodnaaGreatDoor
open Go.RowKit

/-- A row of a type in a block: what each cell holds. -/
def DR (W : World) (t g n : Nat) (P : Nat → Value → Prop) : Prop := ∃ cs, W.heap[g]? = some (.cells cs t (0, 0)) ∧ cs.size = n ∧ ∀ k u, cs[k]? = some u → P k u
theorem DR.set {W : World} {t g n j : Nat} {P P' : Nat → Value → Prop} {v : Value} (h : DR W t g n P) (hP : ∀ k u, k ≠ j → P k u → P' k u) (hv : P' j v) : DR (W.setCell ⟨g, j, none⟩ v) t g n P' := by
  obtain ⟨cs, h1, h2, h3⟩ := h
  refine ⟨_, set_atC h1 v, by simp [h2], fun k u hk => ?_⟩
  rw [Array.getElem?_setIfInBounds] at hk
  split at hk
  · rename_i hjk
    subst hjk
    split at hk
    · cases hk; exact hv
    · cases hk
  · rename_i hjk
    exact hP k u (fun e => hjk e.symm) (h3 k u hk)
theorem DR.cell {W : World} {t g n j : Nat} {P : Nat → Value → Prop} (h : DR W t g n P) (hj : j < n) : ∃ u, W.cell? ⟨g, j, none⟩ = some u ∧ P j u := by
  obtain ⟨cs, h1, h2, h3⟩ := h
  subst h2
  have := Array.getElem?_eq_getElem hj
  exact ⟨_, by simp only [World.cell?, h1]; simp, h3 j _ this⟩
theorem DR.fz {W : World} {t g n : Nat} {P : Nat → Value → Prop} (h : DR W t g n P) (j : Nat) : W.frozen? ⟨g, j, none⟩ = false := by
  obtain ⟨cs, h1, _⟩ := h
  simp [World.frozen?, h1]
theorem DR.lt {W : World} {t g n : Nat} {P : Nat → Value → Prop} (h : DR W t g n P) : g < W.heap.size := by
  obtain ⟨cs, h1, _⟩ := h
  exact heap_lt h1
theorem DR.kept {W W' : World} {t g n : Nat} {P : Nat → Value → Prop} (h : DR W t g n P) (hk : W'.heap[g]? = W.heap[g]?) : DR W' t g n P := by
  obtain ⟨cs, h1, h2⟩ := h
  exact ⟨cs, hk.trans h1, h2⟩
theorem DR.mono {W : World} {t g n : Nat} {P P' : Nat → Value → Prop} (h : DR W t g n P) (hP : ∀ k u, k < n → P k u → P' k u) : DR W t g n P' := by
  obtain ⟨cs, h1, h2, h3⟩ := h
  exact ⟨cs, h1, h2, fun k u hk => hP k u (by rw [← h2]; exact (Array.getElem?_eq_some_iff.1 hk).1) (h3 k u hk)⟩
theorem grown_low {w w' : World} {row : Option Nat} {B : Nat} (hg : w.grownBy w' row) (hB : ∀ g, row = some g → B ≤ g) (hs : B ≤ w.heap.size) : Below B w w' := (Below.refl B w).grown hg hs hB

/-- A row that is owned, cell by cell. -/
theorem own_out {w : World} {base e size n cap g : Nat} {xs : List Value} (h : w.ownsRow base e size (.slice (some ⟨g, 0, none⟩) n cap) n xs) :
    ∃ cs, w.heap[g]? = some (.cells cs e (0, 0)) ∧ cs.size = cap * size ∧ n ≤ cap ∧ cap ≤ maxLen ∧ base ≤ g ∧ xs.length = n * size ∧ ∀ (k : Nat) (u : Value), xs[k]? = some u → cs[k]? = some u := by
  rcases h.2 with ⟨h', _⟩ | ⟨g', cap', cur, hv, hb, hh, hn, hm, hs, ht⟩
  · cases h'
  · cases hv
    refine ⟨cur, hh, hs, hn, hm, hb, h.1, fun k u hk => ?_⟩
    have hl := (List.getElem?_eq_some_iff.1 hk).1
    rw [← ht, List.getElem?_take] at hk
    split at hk
    · simpa using hk
    · cases hk
theorem own_of {w : World} {base e size n cap g : Nat} {cs : Array Value} {xs : List Value} (hh : w.heap[g]? = some (.cells cs e (0, 0))) (hs : cs.size = cap * size) (hn : n ≤ cap) (hm : cap ≤ maxLen) (hb : base ≤ g) (hx : xs.length = n * size)
    (hc : ∀ (k : Nat) (u : Value), xs[k]? = some u → cs[k]? = some u) : w.ownsRow base e size (.slice (some ⟨g, 0, none⟩) n cap) n xs := by
  refine ⟨hx, .inr ⟨g, cap, cs, rfl, hb, hh, hn, hm, hs, ?_⟩⟩
  have hle : n * size ≤ cs.size := by rw [hs]; exact Nat.mul_le_mul_right _ hn
  refine List.ext_getElem? (fun k => ?_)
  rw [List.getElem?_take]
  split
  · rename_i hk
    have hk' : k < xs.length := by omega
    rw [List.getElem?_eq_getElem hk', Array.getElem?_toList]
    exact hc k _ (List.getElem?_eq_getElem hk')
  · rw [List.getElem?_eq_none (by omega)]
theorem own_cell {w : World} {base e size n cap g : Nat} {xs : List Value} (h : w.ownsRow base e size (.slice (some ⟨g, 0, none⟩) n cap) n xs) {k : Nat} {u : Value} (hk : xs[k]? = some u) : w.cell? ⟨g, k, none⟩ = some u := by
  obtain ⟨cs, h1, _, _, _, _, _, h2⟩ := own_out h
  exact heap_cell h1 (h2 k u hk)
theorem ty_ne {w : World} {g h : Nat} {cs ds : Array Value} {t u : TypeId} (hg : w.heap[g]? = some (.cells cs t (0, 0))) (hh : w.heap[h]? = some (.cells ds u (0, 0))) (hn : t ≠ u) : g ≠ h := fun e => by
  subst e
  rw [hg] at hh
  cases hh
  exact hn rfl
theorem own_blk {w : World} {base e size n g : Nat} {v : Value} {xs : List Value} (h : w.ownsRow base e size v n xs) (hg : v.ownBlock = some g) : ∃ cs, w.heap[g]? = some (.cells cs e (0, 0)) := by
  rcases h.2 with ⟨h', _⟩ | ⟨g', cap, cur, hv, _, hh, _⟩
  · rw [h'] at hg; cases hg
  · rw [hv] at hg
    cases hg
    exact ⟨cur, hh⟩
theorem row_made {W : World} {base g n t : Nat} {xs : List Value} {u0 : Value} (h : W.ownsRow base t 1 (.slice (some ⟨g, 0, none⟩) n n) n xs) (hx : ∀ u ∈ xs, u = u0) : DR W t g n (fun _ u => u = u0) := by
  rcases h.2 with ⟨h0, _⟩ | ⟨g', cap', cur, hv, _, hh, _, _, hsz, ht⟩
  · cases h0
  · cases hv
    refine ⟨cur, hh, by simpa using hsz, fun k u hk => hx u ?_⟩
    have hk2 : k < cur.size := (Array.getElem?_eq_some_iff.1 hk).1
    rw [← ht, List.take_of_length_le (by simp; omega)]
    exact Array.mem_toList_iff.2 (Array.mem_of_getElem? hk)
theorem false_made (n : Nat) : ∀ u ∈ (madeCells (Value.bool false).cells (n * 1)).toList, u = .bool false := by
  intro u hu
  unfold madeCells at hu
  rw [Array.toList_map] at hu
  obtain ⟨i, _, rfl⟩ := List.mem_map.1 hu
  show (#[Value.bool false])[i % 1]! = _
  rw [Nat.mod_one]; rfl
theorem infoBool : (Tryz.prog.info? 4).map (fun i => (i.zero, i.size, i.bytes)) = some (some (.bool false), 1, 1) := by kernel_rfl
theorem infoI : (Tryz.prog.info? 3).map (fun i => (i.zero, i.size, i.bytes)) = some (some (.int .i64 0), 1, 8) := by kernel_rfl
theorem made_zero (n : Nat) : ∀ u ∈ (madeCells (Value.int .i64 0).cells (n * 1)).toList, u = .int .i64 0 := by
  intro u hu
  unfold madeCells at hu
  rw [Array.toList_map] at hu
  obtain ⟨i, _, rfl⟩ := List.mem_map.1 hu
  show (#[Value.int .i64 0])[i % 1]! = _
  rw [Nat.mod_one]; rfl
theorem own_ne {W : World} {b b' e e' c c' n n' : Nat} {v v' : Value} {xs xs' : List Value} (h : W.ownsRow b e c v n xs) (h' : W.ownsRow b' e' c' v' n' xs') (hne : e ≠ e') : ∀ g, v.ownBlock = some g → v'.ownBlock ≠ some g := fun g hg hg' => by
  obtain ⟨cs, hc⟩ := own_blk h hg
  obtain ⟨ds, hd⟩ := own_blk h' hg'
  exact ty_ne hc hd hne rfl
theorem dr_ne {W : World} {t g n b e c m : Nat} {P : Nat → Value → Prop} {v : Value} {xs : List Value} (h : DR W t g n P) (h' : W.ownsRow b e c v m xs) (hne : t ≠ e) : v.ownBlock ≠ some g := fun hg => by
  obtain ⟨cs, hc, _⟩ := h
  obtain ⟨ds, hd⟩ := own_blk h' hg
  exact ty_ne hc hd hne rfl
theorem int_at {w : World} {base : Nat} {l : List Nat} {rv : Option Addr} {cv a : Nat} {x : Nat} (h : w.ownsRow base 3 1 (.slice rv l.length cv) l.length (l.map (fun (k : Nat) => Value.int .i64 (k : Int)))) (hp : l[a]? = some x) : ∃ g, rv = some ⟨g, 0, none⟩ ∧ w.cell? ⟨g, a, none⟩ = some (.int .i64 (x : Int)) ∧ g < w.heap.size := by
  have ha := (List.getElem?_eq_some_iff.1 hp).1
  rcases h.2 with ⟨h0, h1⟩ | ⟨g, cap, cur, hv, _⟩
  · omega
  · cases hv
    refine ⟨g, rfl, ?_, (h.lt g rfl).2⟩
    have := h.cells rfl a (.int .i64 (x : Int)) (by rw [List.getElem?_map, hp]; rfl)
    rwa [ad_add, Nat.zero_add] at this
end Go.Proofs.YtpkohocjgnodnaaGreatDoor

/- How the document's walk over depths stands in memory. -/
namespace Go.Proofs.YtpkohocjgnodnaaGreatDoor
open Go.RowKit

structure WS (w0 W : World) (bp gC gT gD n : Nat) (pm : Int) (ra : Option Addr) (cp : Nat) (vr : Value) (row : List Nat) (come two : Nat → Bool) (dep : Nat → Int) : Prop where
  bx : W.heap[bp]? = some (.cells #[.int .i64 pm, .slice ra n cp] 64 (0, 0))
  c : DR W 4 gC n (fun k u => u = .bool (come k))
  t : DR W 4 gT n (fun k u => u = .bool (two k))
  d : DR W 3 gD n (fun k u => u = .int .i64 (dep k))
  r : W.ownsRow w0.heap.size 3 1 vr row.length (row.map (fun (k : Nat) => Value.int .i64 (k : Int)))
  bel : Below w0.heap.size w0 W
  lo : w0.heap.size ≤ gC ∧ w0.heap.size ≤ gT ∧ w0.heap.size ≤ gD ∧ gC ≠ gT
  rd : ∀ g, vr.ownBlock = some g → g ≠ gD
variable {w0 W W1 : World} {bp gC gT gD n : Nat} {pm : Int} {ra : Option Addr} {cp : Nat} {vr vr' : Value} {row : List Nat} {come two : Nat → Bool} {dep : Nat → Int}
theorem WS.below (h : WS w0 W bp gC gT gD n pm ra cp vr row come two dep) (hb : Below W.heap.size W W1) : WS w0 W1 bp gC gT gD n pm ra cp vr row come two dep :=
  ⟨(hb.block _ (heap_lt h.bx)).trans h.bx, h.c.kept (hb.block _ h.c.lt), h.t.kept (hb.block _ h.t.lt), h.d.kept (hb.block _ h.d.lt), own_same h.r (fun g hg => hb.block g (h.r.lt g hg).2), h.bel.trans (hb.mono h.bel.size), h.lo, h.rd⟩
theorem dr_bx {W : World} {t g n b : Nat} {P : Nat → Value → Prop} {cs : Array Value} {u : TypeId} (h : DR W t g n P) (hb : W.heap[b]? = some (.cells cs u (0, 0))) (hne : t ≠ u) : g ≠ b := by
  obtain ⟨ds, hd, _⟩ := h
  exact ty_ne hd hb hne
theorem dr_dr {W : World} {t g n t' g' n' : Nat} {P P' : Nat → Value → Prop} (h : DR W t g n P) (h' : DR W t' g' n' P') (hne : t ≠ t') : g ≠ g' := by
  obtain ⟨ds, hd, _⟩ := h
  obtain ⟨es, he, _⟩ := h'
  exact ty_ne hd he hne
/-- A place is written: come, or two, or a depth. -/
theorem WS.setC (h : WS w0 W bp gC gT gD n pm ra cp vr row come two dep) (q : Nat) : WS w0 (W.setCell ⟨gC, q, none⟩ (.bool true)) bp gC gT gD n pm ra cp vr row (updB come q) two dep := by
  have kk : ∀ k, k ≠ gC → (W.setCell ⟨gC, q, none⟩ (.bool true)).heap[k]? = W.heap[k]? := fun k hk => Below.heap_setCell _ _ _ _ hk
  refine ⟨(kk bp (fun e => dr_bx h.c h.bx (by decide) e.symm)).trans h.bx, h.c.set (fun k u hk hu => by rw [hu]; unfold updB; simp [hk]) (by unfold updB; simp), h.t.kept (kk gT (fun e => h.lo.2.2.2 e.symm)), h.d.kept (kk gD (dr_dr h.d h.c (by decide))), own_same h.r (fun k hk => kk k (fun e => dr_ne h.c h.r (by decide) (by rw [← e]; exact hk))), h.bel.setCell (p := ⟨gC, q, none⟩) h.lo.1 _, h.lo, h.rd⟩
theorem WS.setT (h : WS w0 W bp gC gT gD n pm ra cp vr row come two dep) (q : Nat) : WS w0 (W.setCell ⟨gT, q, none⟩ (.bool true)) bp gC gT gD n pm ra cp vr row come (updB two q) dep := by
  have kk : ∀ k, k ≠ gT → (W.setCell ⟨gT, q, none⟩ (.bool true)).heap[k]? = W.heap[k]? := fun k hk => Below.heap_setCell _ _ _ _ hk
  refine ⟨(kk bp (fun e => dr_bx h.t h.bx (by decide) e.symm)).trans h.bx, h.c.kept (kk gC h.lo.2.2.2), h.t.set (fun k u hk hu => by rw [hu]; unfold updB; simp [hk]) (by unfold updB; simp), h.d.kept (kk gD (dr_dr h.d h.t (by decide))), own_same h.r (fun k hk => kk k (fun e => dr_ne h.t h.r (by decide) (by rw [← e]; exact hk))), h.bel.setCell (p := ⟨gT, q, none⟩) h.lo.2.1 _, h.lo, h.rd⟩
theorem WS.setD (h : WS w0 W bp gC gT gD n pm ra cp vr row come two dep) (q : Nat) (d : Int) : WS w0 (W.setCell ⟨gD, q, none⟩ (.int .i64 d)) bp gC gT gD n pm ra cp vr row come two (updD dep q d) := by
  have kk : ∀ k, k ≠ gD → (W.setCell ⟨gD, q, none⟩ (.int .i64 d)).heap[k]? = W.heap[k]? := fun k hk => Below.heap_setCell _ _ _ _ hk
  refine ⟨(kk bp (fun e => dr_bx h.d h.bx (by decide) e.symm)).trans h.bx, h.c.kept (kk gC (dr_dr h.c h.d (by decide))), h.t.kept (kk gT (dr_dr h.t h.d (by decide))), h.d.set (fun k u hk hu => by rw [hu]; unfold updD; rw [if_neg hk]) (by unfold updD; rw [if_pos rfl]), own_same h.r (fun k hk => kk k (h.rd k hk)), h.bel.setCell (p := ⟨gD, q, none⟩) h.lo.2.2.1 _, h.lo, h.rd⟩
/-- One place more is to be gone on from. -/
theorem WS.push {ob : Obj} (h : WS w0 W bp gC gT gD n pm ra cp vr row come two dep) {q : Nat} (hgr : (W.alloc ob).grownBy W1 vr.ownBlock) (hown : W1.ownsRow w0.heap.size 3 1 vr' (row.length + 1) (row.map (fun (k : Nat) => Value.int .i64 (k : Int)) ++ [.int .i64 (q : Int)])) (hat : ∀ g, vr'.ownBlock = some g → vr.ownBlock = some g ∨ W.heap.size ≤ g) :
    WS w0 W1 bp gC gT gD n pm ra cp vr' (row ++ [q]) come two dep := by
  have kk : ∀ k, k < W.heap.size → vr.ownBlock ≠ some k → W1.heap[k]? = W.heap[k]? := fun k hk h2 => (hgr.block k (by rw [World.size_alloc]; omega) (fun e => h2 e.symm)).trans (Below.heap_alloc _ _ _ hk)
  have hb : vr.ownBlock ≠ some bp := fun e => by
    obtain ⟨cs, hc⟩ := own_blk h.r e
    exact ty_ne hc h.bx (by decide) rfl
  refine ⟨(kk bp (heap_lt h.bx) hb).trans h.bx, h.c.kept (kk gC h.c.lt (dr_ne h.c h.r (by decide))), h.t.kept (kk gT h.t.lt (dr_ne h.t h.r (by decide))), h.d.kept (kk gD h.d.lt (fun e => h.rd gD e rfl)), ?_, ?_, h.lo, fun g hg => ?_⟩
  · rw [List.length_append, List.map_append]; exact hown
  · have b1 : Below w0.heap.size W (W.alloc ob) := (Below.refl _ W).alloc h.bel.size _
    exact h.bel.trans (b1.trans ((Below.refl _ _).grown hgr (by rw [World.size_alloc]; have := h.bel.size; omega) (fun k hk' => (h.r.lt k hk').1)))
  · rcases hat g hg with h' | h'
    · exact h.rd g h'
    · have := h.d.lt; omega
theorem WS.empt (h : WS w0 W bp gC gT gD n pm ra cp vr row come two dep) : WS w0 W bp gC gT gD n pm ra cp (.slice none 0 0) [] come two dep :=
  ⟨h.bx, h.c, h.t, h.d, World.ownsRow_nil _ _ _ _, h.bel, h.lo, fun g hg => by cases hg⟩
theorem WS.cells (h : WS w0 W bp gC gT gD n pm ra cp vr row come two dep) {q : Nat} (hq : q < n) : W.cell? ⟨gC, q, none⟩ = some (.bool (come q)) ∧ W.cell? ⟨gT, q, none⟩ = some (.bool (two q)) ∧ W.cell? ⟨gD, q, none⟩ = some (.int .i64 (dep q)) := by
  obtain ⟨u, h1, rfl⟩ := h.c.cell hq
  obtain ⟨v, h2, rfl⟩ := h.t.cell hq
  obtain ⟨x, h3, rfl⟩ := h.d.cell hq
  exact ⟨h1, h2, h3⟩
theorem WS.lts (h : WS w0 W bp gC gT gD n pm ra cp vr row come two dep) : bp < W.heap.size ∧ gC < W.heap.size ∧ gT < W.heap.size ∧ gD < W.heap.size := ⟨heap_lt h.bx, h.c.lt, h.t.lt, h.d.lt⟩
theorem WS.at1 (h : WS w0 W bp gC gT gD n pm ra cp vr row come two dep) : W.cell? ⟨bp, 0, none⟩ = some (.int .i64 pm) ∧ W.cell? ⟨bp, 1, none⟩ = some (.slice ra n cp) := ⟨heap_cell h.bx rfl, heap_cell h.bx rfl⟩
theorem DR.get {W : World} {t g n : Nat} {P : Nat → Value → Prop} (h : DR W t g n P) : W.heap[g]? ≠ none := by
  obtain ⟨cs, h1, _⟩ := h
  rw [h1]; exact fun e => by cases e
/-- The places behind, as they lie beside the walk. -/
def LX (s : Nat) (W : World) (vr : Value) (rl : Option Addr) (l : List Nat) : Prop := ∀ (j : Nat) (x : Nat), l[j]? = some x → ∃ b, rl = some ⟨b, 0, none⟩ ∧ s ≤ b ∧ b < W.heap.size ∧ (∀ g, vr.ownBlock = some g → g ≠ b) ∧ W.cell? ⟨b, j, none⟩ = some (.int .i64 (x : Int))
theorem LX.set {s : Nat} {rl : Option Addr} {l : List Nat} (h : LX s W vr rl l) {g o : Nat} (hg : g < s) (u : Value) : LX s (W.setCell ⟨g, o, none⟩ u) vr rl l := fun j x hx => by
  obtain ⟨b, h1, h2, h3, h4, h5⟩ := h j x hx
  refine ⟨b, h1, h2, by rw [World.size_setCell]; exact h3, h4, ?_⟩
  have e := Below.heap_setCell W ⟨g, o, none⟩ u b (by show b ≠ g; omega)
  simp only [World.cell?, e]
  exact h5
theorem LX.push {s : Nat} {rl : Option Addr} {l : List Nat} {ob : Obj} (h : LX s W vr rl l) (hgr : (W.alloc ob).grownBy W1 vr.ownBlock) (hat : ∀ g, vr'.ownBlock = some g → vr.ownBlock = some g ∨ W.heap.size ≤ g) : LX s W1 vr' rl l := fun j x hx => by
  obtain ⟨b, h1, h2, h3, h4, h5⟩ := h j x hx
  have hs := hgr.size
  rw [World.size_alloc] at hs
  have e : W1.heap[b]? = W.heap[b]? := (hgr.block b (by rw [World.size_alloc]; omega) (fun e => h4 b e.symm rfl)).trans (Below.heap_alloc _ _ _ h3)
  refine ⟨b, h1, h2, by omega, fun g hg => ?_, by simp only [World.cell?, e]; exact h5⟩
  rcases hat g hg with h' | h'
  · exact h4 g h'
  · omega
theorem LX.below {s : Nat} {rl : Option Addr} {l : List Nat} (h : LX s W vr rl l) (hb : Below W.heap.size W W1) : LX s W1 vr rl l := fun j x hx => by
  obtain ⟨b, h1, h2, h3, h4, h5⟩ := h j x hx
  exact ⟨b, h1, h2, Nat.lt_of_lt_of_le h3 hb.size, h4, (hb.cell (p := ⟨b, j, none⟩) h3).trans h5⟩
theorem lx_of {s : Nat} {rl : Option Addr} {l : List Nat} {w1 : World} (h : IX s w1 rl l) (hv : ∀ g, vr.ownBlock = some g → g < s) : LX s w1 vr rl l := fun j x hx => by
  obtain ⟨b, h1, h2, h3, h4⟩ := h j x hx
  exact ⟨b, h1, h2, h3, fun g hg => by have := hv g hg; omega, h4⟩
theorem own_new1 (W : World) (base k : Nat) (hb : base ≤ W.heap.size) : (W.alloc (.cells #[.int .i64 (k : Int)] 3)).ownsRow base 3 1 (.slice (some ⟨W.heap.size, 0, none⟩) 1 1) 1 [.int .i64 (k : Int)] :=
  own_of (heap_alloc_new W _) rfl (Nat.le_refl _) (by unfold maxLen; omega) hb rfl (fun j u hu => by simpa using hu)
theorem nxt_len (p : Nat) (x : Ins) : (nxtL p x).length ≤ 2 := by
  unfold nxtL
  split
  · simp
  · split
    · simp
    · split <;> simp
theorem below_drewN {n : Nat} {w0 w : World} (h : Below n w0 w) (k : Nat) : Below n w0 (w.drewN k) := by
  induction k generalizing w with
  | zero => exact h
  | succ k ih => exact (ih h).drew
theorem wrapI {x : Int} (h0 : -9223372036854775808 ≤ x) (h1 : x ≤ 9223372036854775807) : IntKind.i64.wrap x = x := by
  simp [IntKind.wrap, IntKind.bits, IntKind.signed]
  omega
end Go.Proofs.YtpkohocjgnodnaaGreatDoor
