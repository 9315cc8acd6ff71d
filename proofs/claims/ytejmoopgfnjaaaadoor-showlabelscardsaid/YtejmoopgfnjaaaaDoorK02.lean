/- The walk's memory, and what it asks of what is done with each cell.; One word is looked at: walk's closure. -/
import Derived.Test.YtejmoopgfnjaaaaDoorK01
import Derived.OwnWalk
import Derived.Deep.AppendLies
import Derived.Deep.RegionHeld3
/- The walk's memory, and what it asks of what is done with each cell. -/
namespace Go.Proofs.YtejmoopgfnjaaaaDoor
open Go.RowKit

theorem own_same {w w' : World} {base e size n : Nat} {v : Value} {xs : List Value} (h : w.ownsRow base e size v n xs) (hk : ∀ g, v.ownBlock = some g → w'.heap[g]? = w.heap[g]?) : w'.ownsRow base e size v n xs := by
  refine ⟨h.1, ?_⟩
  rcases h.2 with h' | ⟨g, cap, cur, hv, hg, hh, r⟩
  · exact .inl h'
  · exact .inr ⟨g, cap, cur, hv, hg, (hk g (by rw [hv]; rfl)).trans hh, r⟩
theorem own_sl {w : World} {base e size n : Nat} {v : Value} {xs : List Value} (h : w.ownsRow base e size v n xs) : ∃ ra cap, v = .slice ra n cap := by
  rcases h.2 with ⟨h', h0⟩ | ⟨g, cap, cur, hv, _⟩
  · exact ⟨none, 0, by rw [h', h0]⟩
  · exact ⟨_, cap, hv⟩
theorem set_atC {W : World} {b j : Nat} {cs : Array Value} {t : TypeId} (h : W.heap[b]? = some (.cells cs t (0, 0))) (v : Value) : (W.setCell ⟨b, j, none⟩ v).heap[b]? = some (.cells (cs.setIfInBounds j v) t (0, 0)) := by
  have hlt := (Array.getElem?_eq_some_iff.1 h).1
  rw [Array.getElem?_eq_getElem hlt] at h
  have h2 := Option.some.inj h
  show (W.heap.modify b _)[b]? = _
  rw [Array.getElem?_modify]
  simp [h2, hlt]
/-- A row of a type in a block: what each cell holds. -/
def DR (W : World) (t g n : Nat) (P : Nat → Value → Prop) : Prop := ∃ cs, W.heap[g]? = some (.cells cs t (0, 0)) ∧ cs.size = n ∧ ∀ k u, cs[k]? = some u → P k u
theorem DR.set {W : World} {t g n j : Nat} {P P' : Nat → Value → Prop} {v : Value} (h : DR W t g n P) (hP : ∀ k u, k ≠ j → P k u → P' k u) (hv : P' j v) : DR (W.setCell ⟨g, j, none⟩ v) t g n P' := by
  obtain ⟨cs, h1, h2, h3⟩ := h
  refine ⟨_, set_atC h1 v, by simp [h2], fun k u hk => ?_⟩
  rw [Array.getElem?_setIfInBounds] at hk
  split at hk
  · rename_i hjk
    subst hjk
    split at hk
    · cases hk; exact hv
    · cases hk
  · rename_i hjk
    exact hP k u (fun e => hjk e.symm) (h3 k u hk)
theorem DR.cell {W : World} {t g n j : Nat} {P : Nat → Value → Prop} (h : DR W t g n P) (hj : j < n) : ∃ u, W.cell? ⟨g, j, none⟩ = some u ∧ P j u := by
  obtain ⟨cs, h1, h2, h3⟩ := h
  subst h2
  have := Array.getElem?_eq_getElem hj
  exact ⟨_, by simp only [World.cell?, h1]; simp, h3 j _ this⟩
theorem DR.fz {W : World} {t g n : Nat} {P : Nat → Value → Prop} (h : DR W t g n P) (j : Nat) : W.frozen? ⟨g, j, none⟩ = false := by
  obtain ⟨cs, h1, _⟩ := h
  simp [World.frozen?, h1]
theorem DR.lt {W : World} {t g n : Nat} {P : Nat → Value → Prop} (h : DR W t g n P) : g < W.heap.size := by
  obtain ⟨cs, h1, _⟩ := h
  exact heap_lt h1
theorem DR.kept {W W' : World} {t g n : Nat} {P : Nat → Value → Prop} (h : DR W t g n P) (hk : W'.heap[g]? = W.heap[g]?) : DR W' t g n P := by
  obtain ⟨cs, h1, h2⟩ := h
  exact ⟨cs, hk.trans h1, h2⟩
theorem DR.mono {W : World} {t g n : Nat} {P P' : Nat → Value → Prop} (h : DR W t g n P) (hP : ∀ k u, k < n → P k u → P' k u) : DR W t g n P' := by
  obtain ⟨cs, h1, h2, h3⟩ := h
  exact ⟨cs, h1, h2, fun k u hk => hP k u (by rw [← h2]; exact (Array.getElem?_eq_some_iff.1 hk).1) (h3 k u hk)⟩
theorem new_cell (W : World) (cs : Array Value) (t : TypeId) (j : Nat) (u : Value) (h : cs.toList[j]? = some u) : (W.alloc (.cells cs t)).cell? ⟨W.heap.size, j, none⟩ = some u := by
  have hn := heap_alloc_new W (.cells cs t)
  simp only [World.cell?, hn]
  simpa using h
theorem ad_add (b o j : Nat) : (⟨b, o, none⟩ : Addr).add j = ⟨b, o + j, none⟩ := by
  simp [Addr.add]
theorem infoI : (Tryd.prog.info? 3).map (fun i => (i.zero, i.size, i.bytes)) = some (some (.int .i64 0), 1, 8) := by kernel_rfl
theorem infoB : (Tryd.prog.info? 4).map (fun i => (i.zero, i.size, i.bytes)) = some (some (.bool false), 1, 1) := by kernel_rfl
theorem grown_low {w w' : World} {row : Option Nat} {B : Nat} (hg : w.grownBy w' row) (hB : ∀ g, row = some g → B ≤ g) (hs : B ≤ w.heap.size) : Below B w w' := (Below.refl B w).grown hg hs hB

theorem stop_of {P : Prop} (h : Hid P) : P := h
/-- Blocks that are left as they are. -/
def Fr (A : Nat → Prop) (w w' : World) : Prop := Below 0 w w' ∧ ∀ g, A g → g < w.heap.size → w'.heap[g]? = w.heap[g]?
theorem Fr.trans {A : Nat → Prop} {w w' w'' : World} (h : Fr A w w') (k : Fr A w' w'') : Fr A w w'' :=
  ⟨h.1.trans k.1, fun g hg hl => (k.2 g hg (Nat.lt_of_lt_of_le hl h.1.size)).trans (h.2 g hg hl)⟩
theorem Fr.refl (A : Nat → Prop) (w : World) : Fr A w w := ⟨Below.refl _ _, fun _ _ _ => rfl⟩
theorem Fr.of {A : Nat → Prop} {B : Nat} {w w' : World} (h : Below B w w') (hA : ∀ g, A g → g < w.heap.size → g < B) : Fr A w w' := ⟨h.mono (Nat.zero_le _), fun g hg hl => h.block g (hA g hg hl)⟩
theorem Fr.below {B : Nat} {w w' : World} (h : Fr (fun g => g < B) w w') (hs : B ≤ w.heap.size) : Below B w w' := ⟨h.1.os, h.1.tape, h.1.output, h.1.size, fun g hg => h.2 g hg (Nat.lt_of_lt_of_le hg hs)⟩
/-- What the walk asks of what is done with each cell that is met. -/
structure MeetOk (n fm vb : Nat) (I : St → World → (Nat → Prop) → Prop) : Prop where
  enter : ∀ (args : Array Value) (w : World), (callFunc fm args).run Tryd.prog w = .ok (.enter fm args) w
  call : ∀ (r : St) (c : Nat) (q : Int) (w : World) (A : Nat → Prop), I r w A → c < n → (-1 ≤ q ∧ q < n) → OkS n r → Calls Tryd.prog fm #[.int .i64 c, .int .i64 q, .pointer (some ⟨vb, 0, none⟩)] w fun e w' => e = .returned (.tuple #[]) ∧ I (r ++ [(c, q)]) w' A ∧ Fr A w w'
  stab : ∀ (r : St) (w w' : World) (A A' : Nat → Prop), I r w A → w.heap.size ≤ w'.heap.size → (∀ g, g < w.heap.size → ¬ A g → w'.heap[g]? = w.heap[g]?) → (∀ g, A' g → A g ∨ w.heap.size ≤ g) → (∀ g, A' g → g < w'.heap.size) → I r w' A'
/-- The walk's variables. -/
structure LS (w : World) (fb mr mb rb n fm vb : Nat) (rv : Value) (r : St) : Prop where
  f : w.heap[fb]? = some (.cells #[.func (.func fm) #[] #[.pointer (some ⟨vb, 0, none⟩)]] 122 (0, 0))
  m : w.heap[mb]? = some (.cells #[.slice (some ⟨mr, 0, none⟩) n n] 129 (0, 0))
  v : w.heap[rb]? = some (.cells #[rv] 34 (0, 0))
  d : DR w 4 (mr) n (fun k u => u = .bool (metB r k))
  o : w.ownsRow (rb + 1) 3 1 rv r.length (r.map (fun p => .int .i64 p.1))
  ok : OkS n r
  ord : fb < mr ∧ mr < mb ∧ mb < rb
def AW (A0 : Nat → Prop) (fb mr mb rb : Nat) (rv : Value) (g : Nat) : Prop := A0 g ∨ (g = fb ∨ g = mr ∨ g = mb ∨ g = rb) ∨ rv.ownBlock = some g
theorem LS.kept {w w' : World} {fb mr mb rb n fm vb : Nat} {A0 : Nat → Prop} {rv : Value} {r : St} (h : LS w fb mr mb rb n fm vb rv r) (hk : Fr (AW A0 fb mr mb rb rv) w w') : LS w' fb mr mb rb n fm vb rv r :=
  ⟨(hk.2 _ (.inr (.inl (by omega))) (heap_lt h.f)).trans h.f, (hk.2 _ (.inr (.inl (by omega))) (heap_lt h.m)).trans h.m, (hk.2 _ (.inr (.inl (by omega))) (heap_lt h.v)).trans h.v,
    h.d.kept (hk.2 _ (.inr (.inl (by omega))) h.d.lt), own_same h.o (fun g hg => hk.2 g (.inr (.inr hg)) (h.o.lt g hg).2), h.ok, h.ord⟩
theorem LS.low {w : World} {fb mr mb rb n fm vb : Nat} {A0 : Nat → Prop} {rv : Value} {r : St} (h : LS w fb mr mb rb n fm vb rv r) (hB : Hid (∀ g, A0 g → g < fb)) : ∀ g, AW A0 fb mr mb rb rv g → g < w.heap.size := fun g hg => by
  have h1 := heap_lt h.v
  obtain ⟨o1, o2, o3⟩ := h.ord
  rcases hg with hg | hg | hg
  · have := hB.out g hg; omega
  · omega
  · exact (h.o.lt g hg).2
end Go.Proofs.YtejmoopgfnjaaaaDoor

/- One word is looked at: walk's closure. -/
namespace Go.Proofs.YtejmoopgfnjaaaaDoor
open Go.RowKit

theorem look_none {r : St} {x q : Int} (h : refB x = false) : lookM r x q = r := by
  have : ¬ ofT x = 8 := by simpa [refB] using h
  unfold lookM refN; rw [if_neg this]
theorem ref_some {x : Int} (h : refB x = true) : ∃ c : Nat, refN x = some c ∧ cellV x = (c : Int) := by
  have h8 : ofT x = 8 := by simpa [refB] using h
  have hb := ofN_ref h
  exact ⟨(ofN x).toNat, by unfold refN; rw [if_pos h8], by unfold cellV; rw [if_pos h8]; omega⟩
theorem look_met {r : St} {x q : Int} {c : Nat} (h : refN x = some c) (hm : metB r c = true) : lookM r x q = r := by unfold lookM; rw [h]; dsimp only; rw [if_pos hm]
theorem look_new {r : St} {x q : Int} {c : Nat} (h : refN x = some c) (hm : metB r c = false) : lookM r x q = r ++ [(c, q)] := by unfold lookM; rw [h]; dsimp only; rw [if_neg (by rw [hm]; decide)]
theorem metB_snoc (r : St) (c k : Nat) (q : Int) : metB (r ++ [(c, q)]) k = (metB r k || c == k) := by unfold metB; simp
/-- What a look leaves. -/
def LookR (fb mr mb rb n fm vb : Nat) (A0 : Nat → Prop) (I : St → World → (Nat → Prop) → Prop) (r : St) (w w' : World) : Prop := ∃ ra cap, LS w' fb mr mb rb n fm vb (.slice ra r.length cap) r ∧ I r w' (AW A0 fb mr mb rb (.slice ra r.length cap)) ∧ Fr A0 w w'
set_option maxRecDepth 100000 in
set_option maxHeartbeats 8000000 in
theorem look_any {n fm vb fb mr mb rb : Nat} {A0 : Nat → Prop} {I : St → World → (Nat → Prop) → Prop} (hM : MeetOk n fm vb I) (x q : Int) (r : St) (ra : Option Addr) (ca : Nat) (w : World) (hS : LS w fb mr mb rb n fm vb (.slice ra r.length ca) r) (hI : I r w (AW A0 fb mr mb rb (.slice ra r.length ca))) (hB : Hid (∀ g, A0 g → g < fb)) (hx : fitsW n x = true) (hR : Rng x) (hq : -1 ≤ q ∧ q < n) (hn : n ≤ 1000000) (hT : Tab w) :
    Calls Tryd.prog 65 #[.int .u64 x, .int .i64 q, .pointer (some ⟨mb, 0, none⟩), .pointer (some ⟨rb, 0, none⟩), .pointer (some ⟨fb, 0, none⟩)] w fun e w' => e = .returned (.tuple #[]) ∧ LookR fb mr mb rb n fm vb A0 I (lookM r x q) w w' := by
  have HS : Hid (LS w fb mr mb rb n fm vb (.slice ra r.length ca) r) := hS
  have HI : Hid (I r w (AW A0 fb mr mb rb (.slice ra r.length ca))) := hI
  have HM : Hid (MeetOk n fm vb I) := hM
  have HC : Hid (Calls Tryd.prog 12 #[.int .u64 x] w fun e w' => e = .returned (.tuple #[.int .i64 (cellV x), .bool (refB x)]) ∧ w' = w) := cell_any x w hR hT
  have HSame : Hid (LookR fb mr mb rb n fm vb A0 I r w w) := ⟨ra, ca, hS, hI, Fr.refl _ _⟩
  have m0 : w.cell? ⟨mb, 0, none⟩ = some (.slice (some ⟨mr, 0, none⟩) n n) := heap_cell hS.m rfl
  have hlen := hS.ok.len
  obtain ⟨o1, o2, o3⟩ := hS.ord
  cases hr : refB x
  · have HL : Hid (lookM r x q = r) := look_none hr
    rw [hr] at HC
    clear hS hI hM hT hR hx hr
    go_enter Tryd.func65, Tryd.ntmps65
    go_wp2_with (first | (go_at_call 12; refine HC.out.mono ?_; rintro e w' ⟨rfl, rfl⟩))
    refine bodyPost_ret (results_none rfl _ _ _) rfl ⟨rfl, ?_⟩
    rw [HL.out]
    exact HSame.out
  · obtain ⟨c, hc, hcv⟩ := ref_some hr
    have hcn : c < n := ref_fits hx hc
    obtain ⟨u, hu, hu2⟩ := hS.d.cell hcn
    have hfz := hS.d.fz c
    have i1 : (c : Int) < (n : Int) := by omega
    have ld := hS.d.lt
    have lm := heap_lt hS.m
    rw [hr, hcv] at HC
    subst hu2
    cases hm : metB r c
    · rw [hm] at hu
      have HL : Hid (lookM r x q = r ++ [(c, q)]) := look_new hc hm
      have HMt : Hid (∀ k, metB (r ++ [(c, q)]) k = (metB r k || c == k)) := fun k => metB_snoc r c k q
      have HOk : Hid (OkS n (r ++ [(c, q)])) := by
        have := hS.ok.look (x := x) (q := q) hx
        rw [look_new hc hm] at this
        exact this
      have HcN : Hid (c < n) := hcn
      obtain ⟨i0, hi0, hz0, hz1, hz2⟩ := info_parts infoI
      have v0 : w.cell? ⟨rb, 0, none⟩ = some (.slice ra r.length ca) := heap_cell hS.v rfl
      have lv := heap_lt hS.v
      have b0 : Below 0 w (w.setCell ⟨mr, c, none⟩ (.bool true)) := (Below.refl 0 w).setCell (p := ⟨mr, c, none⟩) (Nat.zero_le _) _
      have v1 : (w.setCell ⟨mr, c, none⟩ (.bool true)).cell? ⟨rb, 0, none⟩ = some (.slice ra r.length ca) := (World.cell?_setCell_far _ _ _ _ (by show mr ≠ rb; omega)).trans v0
      have k1 : ∀ g, g ≠ mr → (w.setCell ⟨mr, c, none⟩ (.bool true)).heap[g]? = w.heap[g]? := fun g hg => Below.heap_setCell _ _ _ _ hg
      have HD1 : Hid (DR (w.setCell ⟨mr, c, none⟩ (.bool true)) 4 (mr) n (fun k u => u = .bool (metB (r ++ [(c, q)]) k))) := hS.d.set (fun k u hk h => by rw [h, HMt.out k, show (c == k) = false by simpa using fun e => hk e.symm, Bool.or_false]) (by rw [HMt.out c]; simp)
      have HO1 : Hid ((w.setCell ⟨mr, c, none⟩ (.bool true)).ownsRow (rb + 1) 3 1 (.slice ra r.length ca) r.length (r.map (fun p => .int .i64 p.1))) := own_same hS.o (fun g hg => k1 g (by have := (hS.o.lt g hg).1; omega))
      have HK1 : Hid (∀ g, g ≠ mr → (w.setCell ⟨mr, c, none⟩ (.bool true)).heap[g]? = w.heap[g]?) := k1
      have HB0 : Hid (Below 0 w (w.setCell ⟨mr, c, none⟩ (.bool true))) := b0
      have s1 : (w.setCell ⟨mr, c, none⟩ (.bool true)).heap.size = w.heap.size := World.size_setCell ..
      clear hS hI hM hT hR hx hr hm hc hcv HSame b0 k1 hcn
      go_enter Tryd.func65, Tryd.ntmps65
      go_wp2_with fail
      refine Calls.mono HC.out ?_
      rintro e w' ⟨rfl, hw'⟩
      rw [hw']
      clear hw'
      go_wp2_with (at_builtin; refine stop_of ?_)
      unfold Hid
      refine wpList_append_lies _ rfl _ _ 34 rfl (rb + 1) 3 i0 (.int .i64 0) 1 8 Tryd.underlying34 hi0 hz0 hz1 hz2 rfl (by decide) (.slice ra r.length ca) r.length (r.map (fun p => .int .i64 p.1)) rfl (HO1.out.alloc _) ⟨w.heap.size, 0, none⟩ 1 1 [.int .i64 c] rfl rfl (fun j u hu => ?_) (fun u hu => ?_) (by omega) (by unfold maxLen; omega) (by omega) (by rw [World.size_alloc, s1]; omega) _ rfl ?_
      · rw [ad_add, Nat.zero_add, ← s1]
        exact new_cell _ #[.int .i64 c] _ j u hu
      · simp at hu; subst hu; rfl
      intro g cap w2 hown hgr hat hlt2
      have hal : Below 0 (w.setCell ⟨mr, c, none⟩ (.bool true)) ((w.setCell ⟨mr, c, none⟩ (.bool true)).alloc (.cells #[.int .i64 (c : Int)] 3)) := (Below.refl 0 _).alloc (Nat.zero_le _) _
      have s1' : ((w.setCell ⟨mr, c, none⟩ (.bool true)).alloc (.cells #[.int .i64 (c : Int)] 3)).heap.size = w.heap.size + 1 := by rw [World.size_alloc, s1]
      have k2 : ∀ k, k < w.heap.size → (Value.slice ra r.length ca).ownBlock ≠ some k → w2.heap[k]? = (w.setCell ⟨mr, c, none⟩ (.bool true)).heap[k]? := fun k h1 h2 => (hgr.block k (by rw [s1']; omega) (fun e => h2 e.symm)).trans (Below.heap_alloc _ _ _ (by rw [s1]; exact h1))
      have b2 : Below 0 w w2 := HB0.out.trans (hal.trans (grown_low hgr (fun _ _ => Nat.zero_le _) (Nat.zero_le _)))
      have hSo := HS.out.o
      have nb : ∀ k, (Value.slice ra r.length ca).ownBlock = some k → rb + 1 ≤ k := fun k hk => (hSo.lt k hk).1
      have k3 : ∀ k, k < w.heap.size → ¬ AW A0 fb mr mb rb (.slice ra r.length ca) k → (w2.setCell ⟨rb, 0, none⟩ (.slice (some ⟨g, 0, none⟩) (r.length + 1) cap)).heap[k]? = w.heap[k]? := fun k h1 h2 => by
        have n1 : k ≠ rb := fun e => h2 (.inr (.inl (by omega)))
        have n2 : k ≠ mr := fun e => h2 (.inr (.inl (by omega)))
        have n3 : (Value.slice ra r.length ca).ownBlock ≠ some k := fun e => h2 (.inr (.inr e))
        exact (Below.heap_setCell _ _ _ _ n1).trans ((k2 k h1 n3).trans (HK1.out k n2))
      have kS : ∀ k, k < rb + 1 → k ≠ rb → k ≠ mr → k < w.heap.size → (w2.setCell ⟨rb, 0, none⟩ (.slice (some ⟨g, 0, none⟩) (r.length + 1) cap)).heap[k]? = w.heap[k]? := fun k h0 n1 n2 h1 => (Below.heap_setCell _ _ _ _ n1).trans ((k2 k h1 (fun e => by have := nb k e; omega)).trans (HK1.out k n2))
      have s3 : (w2.setCell ⟨rb, 0, none⟩ (.slice (some ⟨g, 0, none⟩) (r.length + 1) cap)).heap.size = w2.heap.size := World.size_setCell ..
      have hs2 : w.heap.size ≤ w2.heap.size := b2.size
      have hv2 : w2.heap[rb]? = some (.cells #[.slice ra r.length ca] 34 (0, 0)) := (k2 _ lv (fun e => by have := nb _ e; omega)).trans ((HK1.out _ (by omega)).trans HS.out.v)
      have hgS : rb + 1 ≤ g := (hown.lt g rfl).1
      have hLS : LS (w2.setCell ⟨rb, 0, none⟩ (.slice (some ⟨g, 0, none⟩) (r.length + 1) cap)) fb mr mb rb n fm vb (.slice (some ⟨g, 0, none⟩) (r.length + 1) cap) (r ++ [(c, q)]) := by
        refine ⟨(kS _ (by omega) (by omega) (by omega) (heap_lt HS.out.f)).trans HS.out.f, (kS _ (by omega) (by omega) (by omega) (heap_lt HS.out.m)).trans HS.out.m, set_atC hv2 _, HD1.out.kept ((Below.heap_setCell _ _ _ _ (by show mr ≠ rb; omega)).trans (k2 _ ld (fun e => by have := nb _ e; omega))), ?_, HOk.out, ⟨o1, o2, o3⟩⟩
        have := own_same (w' := (w2.setCell ⟨rb, 0, none⟩ (.slice (some ⟨g, 0, none⟩) (r.length + 1) cap))) hown (fun k hk => Below.heap_setCell _ _ _ _ (by show k ≠ rb; have := (hown.lt k hk).1; omega))
        simpa using this
      have hI3 : I r (w2.setCell ⟨rb, 0, none⟩ (.slice (some ⟨g, 0, none⟩) (r.length + 1) cap)) (AW A0 fb mr mb rb (.slice (some ⟨g, 0, none⟩) (r.length + 1) cap)) := HM.out.stab r w _ _ _ HI.out (by rw [s3]; exact hs2) k3 (fun k hk => by
        rcases hk with h | h | h
        · exact .inl (.inl h)
        · exact .inl (.inr (.inl h))
        · have e : g = k := by simpa [Value.ownBlock] using h
          rcases hat with h' | h'
          · exact .inl (.inr (.inr (by rw [← e]; exact h')))
          · exact .inr (by omega)) (LS.low (by simpa using hLS) hB)
      have HCm : Hid (Calls Tryd.prog fm #[.int .i64 c, .int .i64 q, .pointer (some ⟨vb, 0, none⟩)] (w2.setCell ⟨rb, 0, none⟩ (.slice (some ⟨g, 0, none⟩) (r.length + 1) cap)) fun e w' => e = .returned (.tuple #[]) ∧ I (r ++ [(c, q)]) w' (AW A0 fb mr mb rb (.slice (some ⟨g, 0, none⟩) (r.length + 1) cap)) ∧ Fr (AW A0 fb mr mb rb (.slice (some ⟨g, 0, none⟩) (r.length + 1) cap)) (w2.setCell ⟨rb, 0, none⟩ (.slice (some ⟨g, 0, none⟩) (r.length + 1) cap)) w') := HM.out.call r c q _ _ hI3 HcN.out hq HS.out.ok
      have HLS : Hid (LS (w2.setCell ⟨rb, 0, none⟩ (.slice (some ⟨g, 0, none⟩) (r.length + 1) cap)) fb mr mb rb n fm vb (.slice (some ⟨g, 0, none⟩) (r.length + 1) cap) (r ++ [(c, q)])) := hLS
      have HF3 : Hid (Fr A0 w (w2.setCell ⟨rb, 0, none⟩ (.slice (some ⟨g, 0, none⟩) (r.length + 1) cap))) := ⟨b2.setCell (p := ⟨rb, 0, none⟩) (Nat.zero_le _) _, fun k hk h1 => by have := hB.out k hk; exact kS k (by omega) (by omega) (by omega) h1⟩
      have f0 : (w2.setCell ⟨rb, 0, none⟩ (.slice (some ⟨g, 0, none⟩) (r.length + 1) cap)).cell? ⟨fb, 0, none⟩ = some (.func (.func fm) #[] #[.pointer (some ⟨vb, 0, none⟩)]) := heap_cell hLS.f rfl
      have sc0 : w2.cell? ⟨rb, 0, none⟩ = some (.slice ra r.length ca) := heap_cell hv2 rfl
      have sf0 : w2.frozen? ⟨rb, 0, none⟩ = false := by simp [World.frozen?, hv2]
      have sl0 : rb < w2.heap.size := heap_lt hv2
      have he := HM.out.enter
      clear hown hgr hat hal k2 k3 kS hv2 hLS hI3 b2 hSo nb
      go_wp2_with fail
      refine Calls.mono HCm.out ?_
      rintro e w4 ⟨rfl, hI4, hF4⟩
      have HR : Hid (LookR fb mr mb rb n fm vb A0 I (r ++ [(c, q)]) w w4) := by
        have e1 : (r ++ [(c, q)]).length = r.length + 1 := by simp
        refine ⟨some ⟨g, 0, none⟩, cap, ?_, ?_, ?_⟩
        · rw [e1]; exact HLS.out.kept hF4
        · rw [e1]; exact hI4
        · exact HF3.out.trans ⟨hF4.1, fun k hk h1 => hF4.2 k (.inl hk) h1⟩
      clear hI4 hF4 HCm
      go_wp2
      go_end0
      refine ⟨rfl, ?_⟩
      rw [HL.out]
      exact HR.out
    · rw [hm] at hu
      have HL : Hid (lookM r x q = r) := look_met hc hm
      clear hS hI hM hT hR hx hr hm hc
      go_enter Tryd.func65, Tryd.ntmps65
      go_wp2_with (first | (go_at_call 12; refine HC.out.mono ?_; rintro e w' ⟨rfl, rfl⟩))
      refine bodyPost_ret (results_none rfl _ _ _) rfl ⟨rfl, ?_⟩
      rw [HL.out]
      exact HSame.out
end Go.Proofs.YtejmoopgfnjaaaaDoor
