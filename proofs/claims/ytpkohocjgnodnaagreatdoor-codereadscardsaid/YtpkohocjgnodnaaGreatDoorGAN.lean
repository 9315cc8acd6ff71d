/- A parser's memory: rows that are its own, no block twice.; takeConst, takeGlobal, takeProc, takeInstr.; takeGlobal, takeProc.; takeProc.; takeInstr. -/
import Derived.Test.YtpkohocjgnodnaaGreatDoorGAM
import Derived.Laws.OwnMore
import Derived.Deep.AppendLies
import Derived.Deep.RegionLaw
/- A parser's memory: rows that are its own, no block twice. -/
namespace Go.Proofs.YtpkohocjgnodnaaGreatDoor
open Go.RowKit

def insCells : List Ins → List Value
  | [] => []
  | x :: r => .int .u8 x.op :: .int .i64 x.a :: insCells r
def prcCells : List Prc → List Value → List Value
  | p :: ps, v :: vs => .int .i64 p.params :: v :: prcCells ps vs
  | _, _ => []
def wordCells (l : List Int) : List Value := l.map (.int .u64 ·)
theorem insCells_snoc : ∀ (l : List Ins) (x : Ins), insCells (l ++ [x]) = insCells l ++ [.int .u8 x.op, .int .i64 x.a]
  | [], x => rfl
  | y :: l, x => by rw [List.cons_append, insCells, insCells_snoc l x]; rfl
theorem prcCells_len : ∀ (ps : List Prc) (vs : List Value), vs.length = ps.length → (prcCells ps vs).length = ps.length * 2
  | [], [], _ => rfl
  | [], _ :: _, h => by simp at h
  | _ :: _, [], h => by simp at h
  | p :: ps, v :: vs, h => by
    have := prcCells_len ps vs (by simpa using h)
    simp only [prcCells, List.length_cons, this]; omega
theorem prcCells_snoc : ∀ (ps : List Prc) (vs : List Value) (p : Prc) (v : Value), vs.length = ps.length → prcCells (ps ++ [p]) (vs ++ [v]) = prcCells ps vs ++ [.int .i64 p.params, v]
  | [], [], p, v, _ => rfl
  | [], _ :: _, _, _, h => by simp at h
  | _ :: _, [], _, _, h => by simp at h
  | q :: ps, u :: vs, p, v, h => by
    have := prcCells_snoc ps vs p v (by simpa using h)
    rw [List.cons_append, List.cons_append, prcCells, this]; rfl
theorem own_same {w w' : World} {base e size n : Nat} {v : Value} {xs : List Value} (h : w.ownsRow base e size v n xs) (hk : ∀ g, v.ownBlock = some g → w'.heap[g]? = w.heap[g]?) : w'.ownsRow base e size v n xs := by
  refine ⟨h.1, ?_⟩
  rcases h.2 with h' | ⟨g, cap, cur, hv, hg, hh, r⟩
  · exact .inl h'
  · exact .inr ⟨g, cap, cur, hv, hg, (hk g (by rw [hv]; rfl)).trans hh, r⟩
theorem own_type {w : World} {base e size n : Nat} {v : Value} {xs : List Value} (h : w.ownsRow base e size v n xs) {g : Nat} (hg : v.ownBlock = some g) : ∃ cur, w.heap[g]? = some (.cells cur e (0, 0)) := by
  rcases h.2 with ⟨h', _⟩ | ⟨g', cap, cur, hv, _, hh, r⟩
  · subst h'; cases hg
  · subst hv; cases hg; exact ⟨cur, hh⟩
theorem own_apart {w : World} {b1 b2 e1 e2 s1 s2 n1 n2 : Nat} {v1 v2 : Value} {x1 x2 : List Value} (h1 : w.ownsRow b1 e1 s1 v1 n1 x1) (h2 : w.ownsRow b2 e2 s2 v2 n2 x2) (he : e1 ≠ e2) {g : Nat} (hg : v1.ownBlock = some g) : v2.ownBlock ≠ some g := fun hg2 => by
  obtain ⟨c1, k1⟩ := own_type h1 hg
  obtain ⟨c2, k2⟩ := own_type h2 hg2
  rw [k1] at k2
  cases k2
  exact he rfl
/-- Code that lies in rows of its own from base on: v1, v2, v3: constants, procedures, globals; vs: the procedures' instructions. -/
structure OC (w : World) (base : Nat) (v1 v2 v3 : Value) (vs : List Value) (c : Cd) : Prop where
  o1 : w.ownsRow base 70 1 v1 c.consts.length (wordCells c.consts)
  o2 : w.ownsRow base 64 2 v2 c.procs.length (prcCells c.procs vs)
  o3 : w.ownsRow base 9 1 v3 c.globals.length (c.globals.map S)
  hv : vs.length = c.procs.length
  code : ∀ (j : Nat) (p : Prc) (v : Value), c.procs[j]? = some p → vs[j]? = some v → w.ownsRow base 79 2 v p.code.length (insCells p.code)
  inc : ∀ (i j : Nat) (vi vj : Value) (gi gj : Nat), i < j → vs[i]? = some vi → vs[j]? = some vj → vi.ownBlock = some gi → vj.ownBlock = some gj → gi < gj
theorem OC.at {w : World} {base : Nat} {v1 v2 v3 : Value} {vs : List Value} {c : Cd} (h : OC w base v1 v2 v3 vs c) {j : Nat} {v : Value} (hj : vs[j]? = some v) : ∃ p, c.procs[j]? = some p ∧ w.ownsRow base 79 2 v p.code.length (insCells p.code) := by
  have hlt : j < c.procs.length := by rw [← h.hv]; exact (List.getElem?_eq_some_iff.1 hj).1
  exact ⟨_, List.getElem?_eq_getElem hlt, h.code j _ v (List.getElem?_eq_getElem hlt) hj⟩
theorem OC.empty (w : World) (base : Nat) : OC w base (.slice none 0 0) (.slice none 0 0) (.slice none 0 0) [] noCd :=
  ⟨World.ownsRow_nil _ _ _ _, World.ownsRow_nil _ _ _ _, World.ownsRow_nil _ _ _ _, rfl, fun j p v h _ => (by simp [noCd] at h), fun i j vi vj gi gj _ h => (by simp at h)⟩
/-- Nothing of the rows has turned. -/
theorem OC.same {w w' : World} {base : Nat} {v1 v2 v3 : Value} {vs : List Value} {c : Cd} (h : OC w base v1 v2 v3 vs c) (hk : ∀ g, base ≤ g → g < w.heap.size → w'.heap[g]? = w.heap[g]?) : OC w' base v1 v2 v3 vs c := by
  have key : ∀ {e s n : Nat} {v : Value} {xs : List Value}, w.ownsRow base e s v n xs → w'.ownsRow base e s v n xs := fun ho => own_same ho (fun g hg => hk g (ho.lt g hg).1 (ho.lt g hg).2)
  exact ⟨key h.o1, key h.o2, key h.o3, h.hv, fun j p v hp hv => key (h.code j p v hp hv), h.inc⟩
theorem OC.put1 {w w' : World} {base : Nat} {v1 v2 v3 v' : Value} {vs : List Value} {c : Cd} (h : OC w base v1 v2 v3 vs c) (x : Int) (hk : ∀ g, base ≤ g → g < w.heap.size → v1.ownBlock ≠ some g → w'.heap[g]? = w.heap[g]?)
    (ho : w'.ownsRow base 70 1 v' (c.consts.length + 1) (wordCells c.consts ++ [.int .u64 x])) : OC w' base v' v2 v3 vs ⟨c.consts ++ [x], c.procs, c.globals⟩ := by
  have key : ∀ {e s n : Nat} {v : Value} {xs : List Value}, w.ownsRow base e s v n xs → e ≠ 70 → w'.ownsRow base e s v n xs := fun ho he => own_same ho (fun g hg => hk g (ho.lt g hg).1 (ho.lt g hg).2 (own_apart ho h.o1 he hg))
  refine ⟨?_, key h.o2 (by decide), key h.o3 (by decide), h.hv, fun j p v hp hv => key (h.code j p v hp hv) (by decide), h.inc⟩
  show w'.ownsRow _ _ _ _ (c.consts ++ [x]).length (wordCells (c.consts ++ [x]))
  rw [List.length_append, show wordCells (c.consts ++ [x]) = wordCells c.consts ++ [.int .u64 x] by simp [wordCells]]
  exact ho
theorem OC.put3 {w w' : World} {base : Nat} {v1 v2 v3 v' : Value} {vs : List Value} {c : Cd} (h : OC w base v1 v2 v3 vs c) (t : List UInt8) (hk : ∀ g, base ≤ g → g < w.heap.size → v3.ownBlock ≠ some g → w'.heap[g]? = w.heap[g]?)
    (ho : w'.ownsRow base 9 1 v' (c.globals.length + 1) (c.globals.map S ++ [S t])) : OC w' base v1 v2 v' vs ⟨c.consts, c.procs, c.globals ++ [t]⟩ := by
  have key : ∀ {e s n : Nat} {v : Value} {xs : List Value}, w.ownsRow base e s v n xs → e ≠ 9 → w'.ownsRow base e s v n xs := fun ho he => own_same ho (fun g hg => hk g (ho.lt g hg).1 (ho.lt g hg).2 (own_apart ho h.o3 he hg))
  refine ⟨key h.o1 (by decide), key h.o2 (by decide), ?_, h.hv, fun j p v hp hv => key (h.code j p v hp hv) (by decide), h.inc⟩
  show w'.ownsRow _ _ _ _ (c.globals ++ [t]).length ((c.globals ++ [t]).map S)
  rw [List.length_append, List.map_append]
  exact ho
theorem get_snoc {α : Type} {l : List α} {x y : α} {j : Nat} (h : (l ++ [x])[j]? = some y) : l[j]? = some y ∨ (j = l.length ∧ y = x) := by
  rcases Nat.lt_trichotomy j l.length with hl | hl | hl
  · rw [List.getElem?_append_left hl] at h; exact .inl h
  · subst hl; simp at h; exact .inr ⟨rfl, h.symm⟩
  · rw [List.getElem?_append_right (by omega), List.getElem?_eq_none (by simp; omega)] at h; cases h
theorem OC.put2 {w w' : World} {base : Nat} {v1 v2 v3 v' : Value} {vs : List Value} {c : Cd} (h : OC w base v1 v2 v3 vs c) (n : Int) (hk : ∀ g, base ≤ g → g < w.heap.size → v2.ownBlock ≠ some g → w'.heap[g]? = w.heap[g]?)
    (ho : w'.ownsRow base 64 2 v' (c.procs.length + 1) (prcCells c.procs vs ++ [.int .i64 n, .slice none 0 0])) : OC w' base v1 v' v3 (vs ++ [.slice none 0 0]) ⟨c.consts, c.procs ++ [⟨n, []⟩], c.globals⟩ := by
  have key : ∀ {e s n : Nat} {v : Value} {xs : List Value}, w.ownsRow base e s v n xs → e ≠ 64 → w'.ownsRow base e s v n xs := fun ho he => own_same ho (fun g hg => hk g (ho.lt g hg).1 (ho.lt g hg).2 (own_apart ho h.o2 he hg))
  refine ⟨key h.o1 (by decide), ?_, key h.o3 (by decide), by simp [h.hv], fun j p v hp hv => ?_, fun i j vi vj gi gj hij hi hj h1 h2 => ?_⟩
  · show w'.ownsRow _ _ _ _ (c.procs ++ [_]).length (prcCells (c.procs ++ [_]) _)
    rw [List.length_append, prcCells_snoc _ _ _ _ h.hv]
    exact ho
  · rcases get_snoc hp with k1 | ⟨k1, k2⟩
    · rcases get_snoc hv with m1 | ⟨m1, _⟩
      · exact key (h.code j p v k1 m1) (by decide)
      · have := (List.getElem?_eq_some_iff.1 k1).1; rw [h.hv] at m1; omega
    · rcases get_snoc hv with m1 | ⟨_, m2⟩
      · have := (List.getElem?_eq_some_iff.1 m1).1; rw [h.hv] at this; omega
      · subst k2; subst m2; exact World.ownsRow_nil _ _ _ _
  · rcases get_snoc hj with k1 | ⟨_, k2⟩
    · rcases get_snoc hi with m1 | ⟨m1, _⟩
      · exact h.inc i j vi vj gi gj hij m1 k1 h1 h2
      · have := (List.getElem?_eq_some_iff.1 k1).1; omega
    · subst k2; cases h2
/-- One instruction more at the end of the last procedure. -/
theorem OC.put4 {w w6 w' : World} {base : Nat} {v1 v3 u u' : Value} {us : List Value} {cs : List Int} {gs : List (List UInt8)} {ps : List Prc} {p : Prc} {g2 cap2 : Nat}
    (h : OC w base v1 (.slice (some ⟨g2, 0, none⟩) (ps.length + 1) cap2) v3 (us ++ [u]) ⟨cs, ps ++ [p], gs⟩) (i : Ins)
    (hk : ∀ g, base ≤ g → g < w.heap.size → u.ownBlock ≠ some g → w6.heap[g]? = w.heap[g]?)
    (ho : w6.ownsRow base 79 2 u' (p.code.length + 1) (insCells p.code ++ [.int .u8 i.op, .int .i64 i.a]))
    (hat : u'.ownBlock = u.ownBlock ∨ ∃ g, u'.ownBlock = some g ∧ w.heap.size ≤ g) (hw : w' = w6.setCell ⟨g2, ps.length * 2 + 1, none⟩ u') :
    OC w' base v1 (.slice (some ⟨g2, 0, none⟩) (ps.length + 1) cap2) v3 (us ++ [u']) ⟨cs, addLast i (ps ++ [p]), gs⟩ := by
  have hul : us.length = ps.length := by have := h.hv; simp at this; exact this
  have hu := h.code ps.length p u (by simp) (by simp [← hul])
  have k6 : ∀ {e s n : Nat} {v : Value} {xs : List Value}, w.ownsRow base e s v n xs → e ≠ 79 → w6.ownsRow base e s v n xs := fun ho he => own_same ho (fun g hg => hk g (ho.lt g hg).1 (ho.lt g hg).2 (own_apart ho hu he hg))
  have o26 := k6 h.o2 (by decide)
  rw [show (⟨cs, ps ++ [p], gs⟩ : Cd).procs.length = ps.length + 1 by simp] at o26
  obtain ⟨o2', hgr⟩ := World.ownsRow.stored o26 (ps.length * 2 + 1) u'
  rw [← hw] at o2' hgr
  have kS : ∀ {e s n : Nat} {v : Value} {xs : List Value}, w6.ownsRow base e s v n xs → e ≠ 64 → w'.ownsRow base e s v n xs := fun ho he => own_same ho (fun g hg => hgr.block g (ho.lt g hg).2 (fun hh => own_apart ho o26 he hg hh.symm))
  rw [addLast_snoc]
  refine ⟨kS (k6 h.o1 (by decide)) (by decide), ?_, kS (k6 h.o3 (by decide)) (by decide), by simp [hul], fun j q v hq hv => ?_, fun a b va vb ga gb hab ha hb h1 h2 => ?_⟩
  · show w'.ownsRow _ _ _ _ (ps ++ [_]).length (prcCells (ps ++ [_]) _)
    rw [prcCells_snoc _ _ _ _ hul, List.length_append]
    rw [show prcCells (⟨cs, ps ++ [p], gs⟩ : Cd).procs (us ++ [u]) = prcCells ps us ++ [.int .i64 p.params, u] from prcCells_snoc _ _ _ _ hul] at o2'
    have e : (prcCells ps us ++ [.int .i64 p.params, u]).set (ps.length * 2 + 1) u' = prcCells ps us ++ [.int .i64 p.params, u'] := by
      rw [List.set_append_right _ _ (by rw [prcCells_len _ _ hul]; omega), prcCells_len _ _ hul]
      simp [show ps.length * 2 + 1 - ps.length * 2 = 1 by omega]
    rw [e] at o2'
    exact o2'
  · rcases get_snoc hq with k1 | ⟨k1, k2⟩
    · rcases get_snoc hv with m1 | ⟨m1, _⟩
      · have hjl := (List.getElem?_eq_some_iff.1 k1).1
        have hc := h.code j q v (by show (ps ++ [p])[j]? = _; rw [List.getElem?_append_left hjl]; exact k1) (by rw [List.getElem?_append_left (by omega)]; exact m1)
        refine kS (own_same hc (fun g hg => hk g (hc.lt g hg).1 (hc.lt g hg).2 (fun he => ?_))) (by decide)
        have := h.inc j ps.length v u g g hjl (by rw [List.getElem?_append_left (by omega)]; exact m1) (by simp [← hul]) hg he
        omega
      · have := (List.getElem?_eq_some_iff.1 k1).1; omega
    · rcases get_snoc hv with m1 | ⟨_, m2⟩
      · have := (List.getElem?_eq_some_iff.1 m1).1; omega
      · subst k2; subst m2
        show w'.ownsRow _ _ _ _ (p.code ++ [i]).length (insCells (p.code ++ [i]))
        rw [List.length_append, insCells_snoc]
        exact kS ho (by decide)
  · rcases get_snoc hb with k1 | ⟨k1, k2⟩
    · rcases get_snoc ha with m1 | ⟨m1, _⟩
      · have hbl := (List.getElem?_eq_some_iff.1 k1).1
        exact h.inc a b va vb ga gb hab (by rw [List.getElem?_append_left (by omega)]; exact m1) (by rw [List.getElem?_append_left (by omega)]; exact k1) h1 h2
      · have := (List.getElem?_eq_some_iff.1 k1).1; omega
    · rcases get_snoc ha with m1 | ⟨m1, _⟩
      · subst k2
        have hal := (List.getElem?_eq_some_iff.1 m1).1
        have ha' : (us ++ [u])[a]? = some va := by rw [List.getElem?_append_left hal]; exact m1
        obtain ⟨q, _, hc⟩ := h.at ha'
        rcases hat with e | ⟨g, e, hg⟩
        · rw [e] at h2
          exact h.inc a ps.length va u ga gb (by omega) ha' (by simp [← hul]) h1 h2
        · rw [e] at h2; cases h2
          have := (hc.lt ga h1).2; omega
      · omega
/-- A parser at block pb. -/
def Ps (w : World) (pb base : Nat) (c : Cd) : Prop := ∃ v1 v2 v3 vs, w.heap[pb]? = some (.cells #[v1, v2, v3] 147 (0, 0)) ∧ OC w base v1 v2 v3 vs c ∧ pb < base ∧ base ≤ w.heap.size
/-- What a parser's calls leave as it was. -/
def FrP (pb base : Nat) (w w' : World) : Prop := Below pb w w' ∧ ∀ g, g < base → g ≠ pb → w'.heap[g]? = w.heap[g]?
theorem FrP.below {pb base : Nat} {w w' : World} (h : Below w.heap.size w w') (h1 : pb < base) (h2 : base ≤ w.heap.size) : FrP pb base w w' := ⟨h.mono (by omega), fun g hg _ => h.block g (by omega)⟩
theorem FrP.trans {pb base : Nat} {w w' w'' : World} (h : FrP pb base w w') (k : FrP pb base w' w'') : FrP pb base w w'' := ⟨h.1.trans k.1, fun g hg hn => (k.2 g hg hn).trans (h.2 g hg hn)⟩
theorem Ps.below {w w' : World} {pb base : Nat} {c : Cd} (h : Ps w pb base c) (hb : Below w.heap.size w w') : Ps w' pb base c := by
  obtain ⟨v1, v2, v3, vs, h1, h2, h3, h4⟩ := h
  exact ⟨v1, v2, v3, vs, (hb.block pb (by omega)).trans h1, h2.same (fun g _ hg => hb.block g hg), h3, Nat.le_trans h4 hb.size⟩
/-- A line is taken, or not. -/
def Took (o : Option Cd) (e : Ending) (w' : World) (pb base : Nat) : Prop := (∃ c', o = some c' ∧ e = .returned (.bool true) ∧ Ps w' pb base c') ∨ (o = none ∧ e = .returned (.bool false))
end Go.Proofs.YtpkohocjgnodnaaGreatDoor

/- takeConst, takeGlobal, takeProc, takeInstr. -/
namespace Go.Proofs.YtpkohocjgnodnaaGreatDoor
open Go.RowKit

theorem infoW : (Tryz.prog.info? 70).map (fun i => (i.zero, i.size, i.bytes)) = some (some (.int .u64 0), 1, 8) := by kernel_rfl
theorem infoSt : (Tryz.prog.info? 9).map (fun i => (i.zero, i.size, i.bytes)) = some (some (.string ⟨#[]⟩), 1, 16) := by kernel_rfl
theorem infoPr : (Tryz.prog.info? 64).map (fun i => (i.zero, i.size, i.bytes)) = some (some (.agg #[.int .i64 0, .slice none 0 0]), 2, 32) := by kernel_rfl
theorem infoIn : (Tryz.prog.info? 79).map (fun i => (i.zero, i.size, i.bytes)) = some (some (.agg #[.int .u8 0, .int .i64 0]), 2, 16) := by kernel_rfl
theorem cell_one_new (W : World) (a0 : Value) (t : TypeId) (b : Nat) (hb : W.heap.size = b) (j : Nat) (u : Value) (h : [a0][j]? = some u) : (W.alloc (.cells #[a0] t)).cell? ((⟨b, 0, none⟩ : Addr).add j) = some u := by
  subst hb
  have hn := heap_alloc_new W (.cells #[a0] t)
  have e : ((⟨W.heap.size, 0, none⟩ : Addr).add j) = ⟨W.heap.size, j, none⟩ := by simp [Addr.add]; exact fun h => h.symm
  rw [e]
  simp only [World.cell?, hn]
  simpa using h
theorem own_slice' {w : World} {base e size n : Nat} {v : Value} {xs : List Value} (h : w.ownsRow base e size v n xs) : ∃ ra cap, v = .slice ra n cap := by
  rcases h.2 with ⟨h', h0⟩ | ⟨g, cap, cur, hv, _⟩
  · subst h0; exact ⟨none, 0, h'⟩
  · exact ⟨_, _, hv⟩
set_option maxRecDepth 100000 in
set_option maxHeartbeats 8000000 in
theorem takeConst_any (c : Cd) (t : List UInt8) (pb base : Nat) (w : World) (hl : t.length ≤ 140737488355328) (hE : Env w) (hP : Ps w pb base c) (hn : c.consts.length ≤ 1099511627776 ∧ c.globals.length ≤ 1099511627776 ∧ c.procs.length ≤ 1099511627776) :
    Calls Tryz.prog 125 #[.pointer (some ⟨pb, 0, none⟩), S t] w fun e w' => Took (takeC c t) e w' pb base ∧ FrP pb base w w' := by
  have HC : Hid (Calls Tryz.prog 140 #[S t] w fun e w' => ToldW (constV t) e ∧ Below w.heap.size w w') := constOf_any t w hl hE
  have HP : Hid (Ps w pb base c) := hP
  obtain ⟨n1, n2, n3⟩ := hn
  clear hE hP
  go_enter Tryz.func125, Tryz.ntmps125
  go_wp2_with fail
  refine Calls.mono HC.out ?_
  rintro e w1 ⟨⟨x, b, rfl, ht⟩, hb⟩
  have HP1 := HP.out.below hb
  have hfr : FrP pb base w w1 := by obtain ⟨_, _, _, _, _, _, h3, h4⟩ := HP.out; exact FrP.below hb h3 h4
  have HFR : Hid (FrP pb base w w1) := hfr
  obtain ⟨v1, v2, v3, vs, hp, hoc, hpb, hbs⟩ := HP1
  have HO : Hid (OC w1 base v1 v2 v3 vs c) := hoc
  have Hp : Hid (w1.heap[pb]? = some (.cells #[v1, v2, v3] 147 (0, 0))) := hp
  obtain ⟨r2, c2, rfl⟩ := own_slice' hoc.o2
  obtain ⟨r3, c3, rfl⟩ := own_slice' hoc.o3
  have q0 : w1.cell? ⟨pb, 0, none⟩ = some v1 := by simp [World.cell?, hp]
  have q1 : w1.cell? ⟨pb, 1, none⟩ = some (.slice r2 c.procs.length c2) := by simp [World.cell?, hp]
  have q2 : w1.cell? ⟨pb, 2, none⟩ = some (.slice r3 c.globals.length c3) := by simp [World.cell?, hp]
  have f0 : w1.frozen? ⟨pb, 0, none⟩ = false := by simp [World.frozen?, hp]
  have hpl : pb < w1.heap.size := by omega
  clear hp hoc hb hfr HC HP
  rcases ht with ⟨h1, rfl⟩ | ⟨h1, rfl⟩
  · by_cases hg : c.globals.length = 0
    · by_cases hp0 : c.procs.length = 0
      · have HV : Hid (takeC c t = some ⟨c.consts ++ [x], c.procs, c.globals⟩) := by show _ = _; unfold takeC; rw [h1]; exact if_pos ⟨hg, hp0⟩
        clear h1
        rw [hg] at q2
        rw [hp0] at q1
        obtain ⟨i0, hi0, hz0, hz1, hz2⟩ := info_parts infoW
        go_wp2_with (at_builtin; refine stop_of ?_)
        unfold Hid
        have vb : ∀ g, v1.ownBlock = some g → base ≤ g ∧ g < w1.heap.size := fun g hg => HO.out.o1.lt g hg
        refine wpList_append_lies _ rfl _ _ 22 rfl base 70 i0 (.int .u64 0) 1 8 Tryz.underlying22 hi0 hz0 hz1 hz2 rfl (by decide) v1 c.consts.length (wordCells c.consts) rfl (HO.out.o1.alloc _) ⟨_, 0, none⟩ 1 1 [.int .u64 x] rfl rfl (cell_one_new w1 _ _ _ rfl) (by intro u hu; simp at hu; subst hu; rfl) (by omega) (by unfold maxLen; omega) (by omega) (by show base ≤ (w1.alloc _).heap.size; rw [World.size_alloc]; omega) _ rfl ?_
        intro gg cap6 w6 hown hgr hat hlt6
        have hk6 : ∀ g, g < w1.heap.size → v1.ownBlock ≠ some g → w6.heap[g]? = w1.heap[g]? := fun g hg hv => (hgr.block g (show g < (w1.alloc _).heap.size by rw [World.size_alloc]; omega) (fun e => hv e.symm)).trans (Below.heap_alloc _ _ _ hg)
        have s6 : w1.heap.size ≤ w6.heap.size := Nat.le_trans (by show _ ≤ (w1.alloc _).heap.size; rw [World.size_alloc]; exact Nat.le_succ _) hgr.size
        have hw6 := (hk6 pb (by omega) (fun e => by have := (vb pb e).1; omega)).trans Hp.out
        have c6 : w6.cell? ⟨pb, 0, none⟩ = some v1 := by simp [World.cell?, hw6]
        have f6 : w6.frozen? ⟨pb, 0, none⟩ = false := by simp [World.frozen?, hw6]
        have HOf : Hid (OC (w6.setCell ⟨pb, 0, none⟩ (.slice (some ⟨gg, 0, none⟩) (c.consts.length + 1) cap6)) base (.slice (some ⟨gg, 0, none⟩) (c.consts.length + 1) cap6) (.slice r2 c.procs.length c2) (.slice r3 c.globals.length c3) vs ⟨c.consts ++ [x], c.procs, c.globals⟩) := by
          show OC _ _ _ _ _ _ _
          refine (HO.out.put1 x (fun g _ hg hv => hk6 g hg hv) hown).same (fun g hg _ => ?_)
          exact Below.heap_setCell _ _ _ _ (by show g ≠ pb; omega)
        have HPf : Hid ((w6.setCell ⟨pb, 0, none⟩ (.slice (some ⟨gg, 0, none⟩) (c.consts.length + 1) cap6)).heap[pb]? = some (.cells #[.slice (some ⟨gg, 0, none⟩) (c.consts.length + 1) cap6, .slice r2 c.procs.length c2, .slice r3 c.globals.length c3] 147 (0, 0))) := set_atC hw6 _
        have HFf : Hid (FrP pb base w1 (w6.setCell ⟨pb, 0, none⟩ (.slice (some ⟨gg, 0, none⟩) (c.consts.length + 1) cap6))) := by
          refine ⟨?_, fun g hg hn => (Below.heap_setCell _ _ _ _ hn).trans (hk6 g (by omega) (fun e => by have := (vb g e).1; omega))⟩
          have h2 : Below pb w1 w6 := ⟨hgr.os, hgr.tape, hgr.output, s6, fun g hg => hk6 g (by omega) (fun e => by have := (vb g e).1; omega)⟩
          exact h2.setCell (p := ⟨pb, 0, none⟩) (Nat.le_refl _) _
        have HS6 : Hid (base ≤ w6.heap.size) := by show _ ≤ _; omega
        clear hown hgr hat hk6 hw6 vb
        go_wp2_with fail
        go_ret
        exact ⟨.inl ⟨_, HV.out, rfl, _, _, _, _, HPf.out, HOf.out, hpb, by rw [World.size_setCell]; exact HS6.out⟩, HFR.out.trans HFf.out⟩
      · have HV : Hid (takeC c t = none) := by show _ = _; unfold takeC; rw [h1]; exact if_neg (fun h => hp0 h.2)
        rw [hg] at q2
        obtain ⟨m, hm⟩ : ∃ m, c.procs.length = m + 1 := ⟨c.procs.length - 1, by omega⟩
        rw [hm] at q1
        have i1 : (0 : Int) < (m : Int) + 1 := by omega
        clear h1
        go_wp2
        go_ret
        exact ⟨.inr ⟨HV.out, rfl⟩, HFR.out⟩
    · have HV : Hid (takeC c t = none) := by show _ = _; unfold takeC; rw [h1]; exact if_neg (fun h => hg h.1)
      obtain ⟨m, hm⟩ : ∃ m, c.globals.length = m + 1 := ⟨c.globals.length - 1, by omega⟩
      rw [hm] at q2
      have i1 : (0 : Int) < (m : Int) + 1 := by omega
      clear h1
      go_wp2
      go_ret
      exact ⟨.inr ⟨HV.out, rfl⟩, HFR.out⟩
  · have HV : Hid (takeC c t = none) := by show _ = _; unfold takeC; rw [h1]
    clear h1
    go_wp2
    go_ret
    exact ⟨.inr ⟨HV.out, rfl⟩, HFR.out⟩
end Go.Proofs.YtpkohocjgnodnaaGreatDoor

/- takeGlobal, takeProc. -/
namespace Go.Proofs.YtpkohocjgnodnaaGreatDoor
open Go.RowKit

set_option maxHeartbeats 2000000 in
theorem cloneS_any (t : List UInt8) (w : World) (hl : t.length ≤ 140737488355328) :
    Calls Tryz.prog 141 #[S t] w fun e w' => e = .returned (S t) ∧ Below w.heap.size w w' := by
  have HC : Hid (Calls Tryz.prog 156 #[S t] w fun e w' => e = .returned (S t) ∧ Below w.heap.size w w') := Tryz.stringslite_Clone ⟨t.toArray⟩ w (by show t.length ≤ _; omega)
  go_enter Tryz.func141, Tryz.ntmps141
  go_wp2_with fail
  refine Calls.mono HC.out ?_
  rintro e w1 ⟨rfl, hb⟩
  go_wp2
  go_ret
  exact ⟨rfl, hb⟩
theorem keepPp {W W' : World} {pb k : Nat} {v : Value} (hb : Below W.heap.size W W') (h : W.cell? ⟨pb, k, none⟩ = some v ∧ W.frozen? ⟨pb, k, none⟩ = false ∧ pb < W.heap.size) : W'.cell? ⟨pb, k, none⟩ = some v ∧ W'.frozen? ⟨pb, k, none⟩ = false ∧ pb < W'.heap.size :=
  ⟨(hb.cell (p := ⟨pb, k, none⟩) h.2.2).trans h.1, (hb.frozen (p := ⟨pb, k, none⟩) h.2.2).trans h.2.1, Nat.lt_of_lt_of_le h.2.2 hb.size⟩
theorem keepAl {W : World} {o : Obj} {pb k : Nat} {v : Value} (h : W.cell? ⟨pb, k, none⟩ = some v ∧ W.frozen? ⟨pb, k, none⟩ = false ∧ pb < W.heap.size) : (W.alloc o).cell? ⟨pb, k, none⟩ = some v ∧ (W.alloc o).frozen? ⟨pb, k, none⟩ = false ∧ pb < (W.alloc o).heap.size :=
  keepPp ((Below.refl _ W).alloc (Nat.le_refl _) o) h
theorem keepGg {W W' : World} {pb k : Nat} {v u : Value} (hg : W.grownBy W' u.ownBlock) (hn : u.ownBlock ≠ some pb) (h : W.cell? ⟨pb, k, none⟩ = some v ∧ W.frozen? ⟨pb, k, none⟩ = false ∧ pb < W.heap.size) : W'.cell? ⟨pb, k, none⟩ = some v ∧ W'.frozen? ⟨pb, k, none⟩ = false ∧ pb < W'.heap.size :=
  have hb := hg.block pb h.2.2 (fun e => hn e.symm)
  ⟨(World.cell?_of_block (a := ⟨pb, k, none⟩) hb).trans h.1, (World.frozen?_of_block (a := ⟨pb, k, none⟩) hb).trans h.2.1, Nat.lt_of_lt_of_le h.2.2 hg.size⟩
theorem keepSt {W : World} {pb k : Nat} {v u : Value} (h : W.cell? ⟨pb, k, none⟩ = some v ∧ W.frozen? ⟨pb, k, none⟩ = false ∧ pb < W.heap.size) : (W.setCell ⟨pb, k, none⟩ u).frozen? ⟨pb, k, none⟩ = false ∧ pb < (W.setCell ⟨pb, k, none⟩ u).heap.size :=
  ⟨by rw [World.frozen?_setCell]; exact h.2.1, by rw [World.size_setCell]; exact h.2.2⟩
set_option maxRecDepth 100000 in
set_option maxHeartbeats 8000000 in
theorem takeGlobal_any (c : Cd) (t : List UInt8) (pb base : Nat) (w : World) (hl : t.length ≤ 140737488355328) (hP : Ps w pb base c) (hn : c.consts.length ≤ 1099511627776 ∧ c.globals.length ≤ 1099511627776 ∧ c.procs.length ≤ 1099511627776) :
    Calls Tryz.prog 126 #[.pointer (some ⟨pb, 0, none⟩), S t] w fun e w' => Took (takeG c t) e w' pb base ∧ FrP pb base w w' := by
  obtain ⟨n1, n2, n3⟩ := hn
  obtain ⟨v1, v2, v3, vs, hp, hoc, hpb, hbs⟩ := hP
  have HO : Hid (OC w base v1 v2 v3 vs c) := hoc
  have Hp : Hid (w.heap[pb]? = some (.cells #[v1, v2, v3] 147 (0, 0))) := hp
  obtain ⟨r2, c2, rfl⟩ := own_slice' hoc.o2
  have q1 : w.cell? ⟨pb, 1, none⟩ = some (.slice r2 c.procs.length c2) := by simp [World.cell?, hp]
  have q2 : w.cell? ⟨pb, 2, none⟩ = some v3 := by simp [World.cell?, hp]
  have f2 : w.frozen? ⟨pb, 2, none⟩ = false := by simp [World.frozen?, hp]
  have hpl : pb < w.heap.size := by omega
  have HCl : Hid (∀ w5 : World, Calls Tryz.prog 141 #[S t] w5 fun e w' => e = .returned (S t) ∧ Below w5.heap.size w5 w') := fun w5 => cloneS_any t w5 hl
  have vb : ∀ g, v3.ownBlock = some g → base ≤ g ∧ g < w.heap.size := fun g hg => hoc.o3.lt g hg
  have hvp : v3.ownBlock ≠ some pb := fun e => by have := (vb pb e).1; omega
  have HOw : Hid (∀ w3 : World, Below w.heap.size w w3 → w3.ownsRow base 9 1 v3 c.globals.length (c.globals.map S) ∧ base ≤ w3.heap.size) := fun w3 h3 => ⟨own_same HO.out.o3 (fun g hg => h3.block g (vb g hg).2), Nat.le_trans hbs h3.size⟩
  clear hp hoc
  by_cases hp0 : c.procs.length = 0
  · have HV : Hid (takeG c t = some ⟨c.consts, c.procs, c.globals ++ [t]⟩) := by show _ = _; unfold takeG; exact if_pos hp0
    rw [hp0] at q1
    obtain ⟨i0, hi0, hz0, hz1, hz2⟩ := info_parts infoSt
    have hmx : Tryz.prog.follows .mixedOrders = true := by kernel_rfl
    go_enter Tryz.func126, Tryz.ntmps126
    go_wp2_with fail
    go_region_law (first | (refine step_append_lies _ rfl _ _ 24 rfl base 9 i0 (.string ⟨#[]⟩) 1 16 Tryz.underlying24 hi0 hz0 hz1 hz2 rfl (by decide) v3 c.globals.length (c.globals.map S) rfl ((HOw.out w3 ((Below.refl _ w).drew.trans hb3)).1.alloc _) ⟨_, 0, none⟩ 1 1 [S t] rfl rfl (cell_one_new w3 _ _ _ rfl) (by intro u hu; simp at hu; subst hu; rfl) (by omega) (by unfold maxLen; omega) (by omega) (by show base ≤ (w3.alloc _).heap.size; rw [World.size_alloc]; have := (HOw.out w3 ((Below.refl _ w).drew.trans hb3)).2; omega) _ rfl ?_; intro gg cap6 w6 hown hgr hat hlt6; obtain ⟨c6, f6, l6⟩ := keepGg hgr hvp (keepAl (keepPp hb3 ⟨q2, f2, hpl⟩))) | (go_simp; go_at_call 141; refine (HCl.out _).mono ?_; rintro e w3 ⟨rfl, hb3⟩; obtain ⟨c3, f3, l3⟩ := keepPp hb3 ⟨q2, f2, hpl⟩))
    all_goals
      have hb : Below w.heap.size w w3 := (Below.refl _ w).drew.trans hb3
      have hk6 : ∀ g, g < w.heap.size → v3.ownBlock ≠ some g → w6.heap[g]? = w.heap[g]? := fun g hg hv => ((hgr.block g (show g < (w3.alloc _).heap.size by rw [World.size_alloc]; have := hb.size; omega) (fun e => hv e.symm)).trans (Below.heap_alloc _ _ _ (Nat.lt_of_lt_of_le hg hb.size))).trans (hb.block g hg)
      have s6 : w.heap.size ≤ w6.heap.size := Nat.le_trans hb.size (Nat.le_trans (by show _ ≤ (w3.alloc _).heap.size; rw [World.size_alloc]; exact Nat.le_succ _) hgr.size)
      have hw6 := (hk6 pb (by omega) hvp).trans Hp.out
      have HOf : Hid (OC (w6.setCell ⟨pb, 2, none⟩ (.slice (some ⟨gg, 0, none⟩) (c.globals.length + 1) cap6)) base v1 (.slice r2 c.procs.length c2) (.slice (some ⟨gg, 0, none⟩) (c.globals.length + 1) cap6) vs ⟨c.consts, c.procs, c.globals ++ [t]⟩) := by
        show OC _ _ _ _ _ _ _
        refine (HO.out.put3 t (fun g _ hg hv => hk6 g hg hv) hown).same (fun g hg _ => ?_)
        exact Below.heap_setCell _ _ _ _ (by show g ≠ pb; omega)
      have HPf : Hid ((w6.setCell ⟨pb, 2, none⟩ (.slice (some ⟨gg, 0, none⟩) (c.globals.length + 1) cap6)).heap[pb]? = some (.cells #[v1, .slice r2 c.procs.length c2, .slice (some ⟨gg, 0, none⟩) (c.globals.length + 1) cap6] 147 (0, 0))) := set_atC hw6 _
      have HFf : Hid (FrP pb base w (w6.setCell ⟨pb, 2, none⟩ (.slice (some ⟨gg, 0, none⟩) (c.globals.length + 1) cap6))) := by
        refine ⟨?_, fun g hg hn => (Below.heap_setCell _ _ _ _ hn).trans (hk6 g (by omega) (fun e => by have := (vb g e).1; omega))⟩
        have h2 : Below pb w w6 := ⟨hgr.os.trans hb.os, hgr.tape.trans hb.tape, hgr.output.trans hb.output, s6, fun g hg => hk6 g (by omega) (fun e => by have := (vb g e).1; omega)⟩
        exact h2.setCell (p := ⟨pb, 2, none⟩) (Nat.le_refl _) _
      have HS6 : Hid (base ≤ w6.heap.size) := by show _ ≤ _; omega
      clear hown hgr hat hk6 hw6 vb
      go_wp2_with fail
      go_ret
      exact ⟨.inl ⟨_, HV.out, rfl, _, _, _, _, HPf.out, HOf.out, hpb, by rw [World.size_setCell]; exact HS6.out⟩, HFf.out⟩
  · have HV : Hid (takeG c t = none) := by show _ = _; unfold takeG; exact if_neg hp0
    obtain ⟨m, hm⟩ : ∃ m, c.procs.length = m + 1 := ⟨c.procs.length - 1, by omega⟩
    rw [hm] at q1
    have i1 : (0 : Int) < (m : Int) + 1 := by omega
    go_enter Tryz.func126, Tryz.ntmps126
    go_wp2
    go_ret
    exact ⟨.inr ⟨HV.out, rfl⟩, FrP.below (Below.refl _ _) hpb hbs⟩
end Go.Proofs.YtpkohocjgnodnaaGreatDoor

/- takeProc. -/
namespace Go.Proofs.YtpkohocjgnodnaaGreatDoor
open Go.RowKit

set_option maxRecDepth 100000 in
set_option maxHeartbeats 8000000 in
theorem takeProc_any (c : Cd) (t : List UInt8) (pb base : Nat) (w : World) (hl : t.length ≤ 140737488355328) (hE : Env w) (hP : Ps w pb base c) (hn : c.consts.length ≤ 1099511627776 ∧ c.globals.length ≤ 1099511627776 ∧ c.procs.length ≤ 1099511627776) :
    Calls Tryz.prog 127 #[.pointer (some ⟨pb, 0, none⟩), S t] w fun e w' => Took (takeP c t) e w' pb base ∧ FrP pb base w w' := by
  have HC : Hid (Calls Tryz.prog 142 #[S t] w fun e w' => ToldI (countV t) e ∧ Below w.heap.size w w') := count_any t w hl hE
  have HP : Hid (Ps w pb base c) := hP
  obtain ⟨n1, n2, n3⟩ := hn
  clear hE hP
  go_enter Tryz.func127, Tryz.ntmps127
  go_wp2_with fail
  refine Calls.mono HC.out ?_
  rintro e w1 ⟨⟨x, b, rfl, ht⟩, hb⟩
  have HP1 := HP.out.below hb
  have hfr : FrP pb base w w1 := by obtain ⟨_, _, _, _, _, _, h3, h4⟩ := HP.out; exact FrP.below hb h3 h4
  have HFR : Hid (FrP pb base w w1) := hfr
  obtain ⟨v1, v2, v3, vs, hp, hoc, hpb, hbs⟩ := HP1
  have HO : Hid (OC w1 base v1 v2 v3 vs c) := hoc
  have Hp : Hid (w1.heap[pb]? = some (.cells #[v1, v2, v3] 147 (0, 0))) := hp
  have q0 : w1.cell? ⟨pb, 1, none⟩ = some v2 := by simp [World.cell?, hp]
  have f0 : w1.frozen? ⟨pb, 1, none⟩ = false := by simp [World.frozen?, hp]
  have hpl : pb < w1.heap.size := by omega
  clear hp hoc hb hfr HC HP
  rcases ht with ⟨h1, rfl⟩ | ⟨h1, rfl⟩
  · have HV : Hid (takeP c t = some ⟨c.consts, c.procs ++ [⟨x, []⟩], c.globals⟩) := by show _ = _; unfold takeP; rw [h1]
    clear h1
    obtain ⟨i0, hi0, hz0, hz1, hz2⟩ := info_parts infoPr
    go_wp2_with (at_builtin; refine stop_of ?_)
    unfold Hid
    have vb : ∀ g, v2.ownBlock = some g → base ≤ g ∧ g < w1.heap.size := fun g hg => HO.out.o2.lt g hg
    refine wpList_append_lies _ rfl _ _ 23 rfl base 64 i0 (.agg #[.int .i64 0, .slice none 0 0]) 2 32 Tryz.underlying23 hi0 hz0 hz1 hz2 rfl (by decide) v2 c.procs.length (prcCells c.procs vs) rfl (HO.out.o2.alloc _) ⟨_, 0, none⟩ 1 1 [.int .i64 x, .slice none 0 0] rfl rfl (cell_two_new w1 _ _ _ _ rfl) (by intro u hu; simp at hu; rcases hu with rfl | rfl <;> rfl) (by omega) (by unfold maxLen; omega) (by omega) (by show base ≤ (w1.alloc _).heap.size; rw [World.size_alloc]; omega) _ rfl ?_
    intro gg cap6 w6 hown hgr hat hlt6
    have hk6 : ∀ g, g < w1.heap.size → v2.ownBlock ≠ some g → w6.heap[g]? = w1.heap[g]? := fun g hg hv => (hgr.block g (show g < (w1.alloc _).heap.size by rw [World.size_alloc]; omega) (fun e => hv e.symm)).trans (Below.heap_alloc _ _ _ hg)
    have s6 : w1.heap.size ≤ w6.heap.size := Nat.le_trans (by show _ ≤ (w1.alloc _).heap.size; rw [World.size_alloc]; exact Nat.le_succ _) hgr.size
    have hw6 := (hk6 pb (by omega) (fun e => by have := (vb pb e).1; omega)).trans Hp.out
    have c6 : w6.cell? ⟨pb, 1, none⟩ = some v2 := by simp [World.cell?, hw6]
    have f6 : w6.frozen? ⟨pb, 1, none⟩ = false := by simp [World.frozen?, hw6]
    have HOf : Hid (OC (w6.setCell ⟨pb, 1, none⟩ (.slice (some ⟨gg, 0, none⟩) (c.procs.length + 1) cap6)) base v1 (.slice (some ⟨gg, 0, none⟩) (c.procs.length + 1) cap6) v3 (vs ++ [.slice none 0 0]) ⟨c.consts, c.procs ++ [⟨x, []⟩], c.globals⟩) := by
      show OC _ _ _ _ _ _ _
      refine (HO.out.put2 x (fun g _ hg hv => hk6 g hg hv) hown).same (fun g hg _ => ?_)
      exact Below.heap_setCell _ _ _ _ (by show g ≠ pb; omega)
    have HPf : Hid ((w6.setCell ⟨pb, 1, none⟩ (.slice (some ⟨gg, 0, none⟩) (c.procs.length + 1) cap6)).heap[pb]? = some (.cells #[v1, .slice (some ⟨gg, 0, none⟩) (c.procs.length + 1) cap6, v3] 147 (0, 0))) := set_atC hw6 _
    have HFf : Hid (FrP pb base w1 (w6.setCell ⟨pb, 1, none⟩ (.slice (some ⟨gg, 0, none⟩) (c.procs.length + 1) cap6))) := by
      refine ⟨?_, fun g hg hn => (Below.heap_setCell _ _ _ _ hn).trans (hk6 g (by omega) (fun e => by have := (vb g e).1; omega))⟩
      have h2 : Below pb w1 w6 := ⟨hgr.os, hgr.tape, hgr.output, s6, fun g hg => hk6 g (by omega) (fun e => by have := (vb g e).1; omega)⟩
      exact h2.setCell (p := ⟨pb, 1, none⟩) (Nat.le_refl _) _
    have HS6 : Hid (base ≤ w6.heap.size) := by show _ ≤ _; omega
    clear hown hgr hat hk6 hw6 vb
    go_wp2_with fail
    go_ret
    exact ⟨.inl ⟨_, HV.out, rfl, _, _, _, _, HPf.out, HOf.out, hpb, by rw [World.size_setCell]; exact HS6.out⟩, HFR.out.trans HFf.out⟩
  · have HV : Hid (takeP c t = none) := by show _ = _; unfold takeP; rw [h1]
    clear h1
    go_wp2
    go_ret
    exact ⟨.inr ⟨HV.out, rfl⟩, HFR.out⟩
end Go.Proofs.YtpkohocjgnodnaaGreatDoor

/- takeInstr. -/
namespace Go.Proofs.YtpkohocjgnodnaaGreatDoor
open Go.RowKit

set_option maxRecDepth 100000 in
set_option maxHeartbeats 8000000 in
theorem takeInstr_any (c : Cd) (t : List UInt8) (pb base : Nat) (w : World) (hl : t.length ≤ 140737488355328) (hE : Env w) (hP : Ps w pb base c) (hn : c.procs.length ≤ 1099511627776 ∧ ∀ p ∈ c.procs, p.code.length ≤ 1099511627776) :
    Calls Tryz.prog 128 #[.pointer (some ⟨pb, 0, none⟩), S t] w fun e w' => Took (takeI c t) e w' pb base ∧ FrP pb base w w' := by
  have HC : Hid (Calls Tryz.prog 143 #[S t] w fun e w' => ToldN (instrV t) e ∧ Below w.heap.size w w') := instrOf_any t w hl hE
  have HP : Hid (Ps w pb base c) := hP
  obtain ⟨n1, n2⟩ := hn
  clear hE hP
  go_enter Tryz.func128, Tryz.ntmps128
  go_wp2_with fail
  refine Calls.mono HC.out ?_
  rintro e w0 ⟨⟨op, a, b, rfl, ht⟩, hb0⟩
  have hal : Below w.heap.size w (w0.alloc (.cells #[.int .u8 op, .int .i64 a] 79)) := hb0.trans (((Below.refl _ w0).alloc (Nat.le_refl _) _).mono hb0.size)
  have HP1 := HP.out.below hal
  have hfr : FrP pb base w (w0.alloc (.cells #[.int .u8 op, .int .i64 a] 79)) := by obtain ⟨_, _, _, _, _, _, h3, h4⟩ := HP.out; exact FrP.below hal h3 h4
  have HFR : Hid (FrP pb base w (w0.alloc (.cells #[.int .u8 op, .int .i64 a] 79))) := hfr
  rcases ht with ⟨h1, rfl⟩ | ⟨h1, rfl⟩
  · clear HP1 hfr HFR
    have HP0 := HP.out.below hb0
    have HFR0 : Hid (FrP pb base w w0) := by obtain ⟨_, _, _, _, _, _, h3, h4⟩ := HP.out; exact FrP.below hb0 h3 h4
    obtain ⟨v1, v2, v3, vs, hp, hoc, hpb, hbs⟩ := HP0
    have Hp : Hid (w0.heap[pb]? = some (.cells #[v1, v2, v3] 147 (0, 0))) := hp
    have hpl : pb < w0.heap.size := by omega
    by_cases hp0 : c.procs.length = 0
    · have HV : Hid (takeI c t = none) := by show _ = _; unfold takeI; rw [h1]; exact if_pos hp0
      obtain ⟨r2, c2, rfl⟩ := own_slice' hoc.o2
      have q1 : w0.cell? ⟨pb, 1, none⟩ = some (.slice r2 0 c2) := by rw [← hp0]; simp [World.cell?, hp]
      have HFR : Hid (FrP pb base w (w0.alloc (.cells #[.int .u8 op, .int .i64 a] 79))) := HFR0.out.trans (FrP.below ((Below.refl _ w0).alloc (Nat.le_refl _) _) hpb hbs)
      clear h1 hp hoc hb0 hal HP HC Hp
      go_wp2
      go_ret
      exact ⟨.inr ⟨HV.out, rfl⟩, HFR.out⟩
    · obtain ⟨cs, pl, gs⟩ := c
      simp only at hp0 n1 n2
      obtain ⟨ps, p, rfl⟩ := last_split pl (fun e => hp0 (by rw [e]; rfl))
      have hvl := hoc.hv
      obtain ⟨us, u, rfl⟩ := last_split vs (fun e => by rw [e] at hvl; simp at hvl)
      have hul : us.length = ps.length := by simpa using hvl
      have HV : Hid (takeI ⟨cs, ps ++ [p], gs⟩ t = some ⟨cs, addLast ⟨op, a⟩ (ps ++ [p]), gs⟩) := by show _ = _; unfold takeI; rw [h1]; exact if_neg hp0
      have ho2 := hoc.o2
      rw [show (⟨cs, ps ++ [p], gs⟩ : Cd).procs.length = ps.length + 1 by simp] at ho2
      obtain ⟨g2, cap2, rfl, hg2b, hg2l⟩ := ho2.form (by omega)
      have HO : Hid (OC w0 base v1 (.slice (some ⟨g2, 0, none⟩) (ps.length + 1) cap2) v3 (us ++ [u]) ⟨cs, ps ++ [p], gs⟩) := hoc
      have q1 : w0.cell? ⟨pb, 1, none⟩ = some (.slice (some ⟨g2, 0, none⟩) (ps.length + 1) cap2) := by simp [World.cell?, hp]
      have m0 : w0.cell? ⟨g2, ps.length * 2 + 1, none⟩ = some u := by
        rw [ho2.cellAt (ps.length * 2 + 1) (by omega), show prcCells (⟨cs, ps ++ [p], gs⟩ : Cd).procs (us ++ [u]) = prcCells ps us ++ [.int .i64 p.params, u] from prcCells_snoc _ _ _ _ hul, List.getElem?_append_right (by rw [prcCells_len _ _ hul]; omega), prcCells_len _ _ hul]
        simp [show ps.length * 2 + 1 - ps.length * 2 = 1 by omega]
      have mf : w0.frozen? ⟨g2, ps.length * 2 + 1, none⟩ = false := ho2.frozenAt _
      have hu := hoc.code ps.length p u (by simp) (by simp [← hul])
      have vb : ∀ g, u.ownBlock = some g → base ≤ g ∧ g < w0.heap.size := fun g hg => hu.lt g hg
      have hug : u.ownBlock ≠ some g2 := own_apart ho2 hu (by decide) rfl
      have hpc := n2 p (by simp)
      have HOu : Hid (∀ w3 : World, Below w0.heap.size w0 w3 → w3.ownsRow base 79 2 u p.code.length (insCells p.code) ∧ base ≤ w3.heap.size) := fun w3 h3 => ⟨own_same hu (fun g hg => h3.block g (vb g hg).2), Nat.le_trans hbs h3.size⟩
      have npg : ¬ pb = g2 := by omega
      have HKp : Hid (∀ w3 : World, Below w0.heap.size w0 w3 → w3.cell? ⟨g2, ps.length * 2 + 1, none⟩ = some u ∧ w3.frozen? ⟨g2, ps.length * 2 + 1, none⟩ = false ∧ g2 < w3.heap.size) := fun w3 h3 => keepPp h3 ⟨m0, mf, hg2l⟩
      have hS : ∀ (o : Obj) (k : Nat), ((w0.alloc o).drewN k).drew.heap.size = w0.heap.size + 1 := fun o k => by show (w0.alloc o).heap.size = _; rw [World.size_alloc]
      have HSz : Hid (∀ (o : Obj) (k : Nat), ((w0.alloc o).drewN k).drew.heap.size = w0.heap.size + 1) := hS
      have HSy : Hid (∀ (o : Obj) (k : Nat), ((w0.alloc o).drewN k).heap.size = w0.heap.size + 1) := fun o k => hS o k
      clear hS
      obtain ⟨i0, hi0, hz0, hz1, hz2⟩ := info_parts infoIn
      have i1 : (ps.length : Int) < (ps.length : Int) + 1 := by omega
      have i2 : (0 : Int) ≤ (ps.length : Int) := by omega
      have i3 : ((ps.length : Int) + 1 == 0) = false := by simp; omega
      have hlp : ps.length ≤ 1099511627776 := by simp at n1; omega
      clear h1 hp hoc hal HP HC ho2 hu n1 n2 hvl hul hp0
      go_wp2_with fail
      go_quiet (fail)
      go_wp2_with fail
      go_region_law (refine step_append_lies _ rfl _ _ 62 rfl base 79 i0 (.agg #[.int .u8 0, .int .i64 0]) 2 16 Tryz.underlying62 hi0 hz0 hz1 hz2 rfl (by decide) u p.code.length (insCells p.code) rfl ((HOu.out _ (below_drewM ((Below.refl _ w0).alloc (Nat.le_refl _) _) _).drew).1.alloc _) ⟨_, 0, none⟩ 1 1 [.int .u8 op, .int .i64 a] rfl rfl (cell_two_new _ _ _ _ _ (HSz.out _ _)) (by intro x hx; simp at hx; rcases hx with rfl | rfl <;> rfl) (by omega) (by unfold maxLen; omega) (by omega) (Nat.le_trans (HOu.out _ (below_drewM ((Below.refl _ w0).alloc (Nat.le_refl _) _) _).drew).2 (by rw [World.size_alloc]; exact Nat.le_succ _)) _ rfl ?_; intro gg cap6 w6 hown hgr hat hlt6; obtain ⟨c6, f6, l6⟩ := keepGg hgr hug (keepAl (HKp.out _ (below_drewM ((Below.refl _ w0).alloc (Nat.le_refl _) _) _).drew)))
      all_goals
        have hk6 : ∀ g, g < w0.heap.size → u.ownBlock ≠ some g → w6.heap[g]? = w0.heap[g]? := fun g hg hv => ((hgr.block g (by rw [World.size_alloc, HSy.out]; omega) (fun e => hv e.symm)).trans (Below.heap_alloc _ _ _ (by rw [HSy.out]; omega))).trans (Below.heap_alloc w0 _ _ hg)
        have s6 : w0.heap.size ≤ w6.heap.size := Nat.le_trans (by rw [World.size_alloc, HSy.out]; omega) hgr.size
        have hat' : Value.ownBlock (.slice (some ⟨gg, 0, none⟩) (p.code.length + 1) cap6) = u.ownBlock ∨ ∃ g, Value.ownBlock (.slice (some ⟨gg, 0, none⟩) (p.code.length + 1) cap6) = some g ∧ w0.heap.size ≤ g := by
          rcases hat with e | e
          · exact .inl (by rw [e]; rfl)
          · exact .inr ⟨gg, rfl, by rw [e, World.size_alloc, HSy.out]; omega⟩
        have HOf : Hid (OC (w6.setCell ⟨g2, ps.length * 2 + 1, none⟩ (.slice (some ⟨gg, 0, none⟩) (p.code.length + 1) cap6)) base v1 (.slice (some ⟨g2, 0, none⟩) (ps.length + 1) cap2) v3 (us ++ [.slice (some ⟨gg, 0, none⟩) (p.code.length + 1) cap6]) ⟨cs, addLast ⟨op, a⟩ (ps ++ [p]), gs⟩) :=
          HO.out.put4 ⟨op, a⟩ (fun g _ hg hv => hk6 g hg hv) hown hat' rfl
        have hup : u.ownBlock ≠ some pb := fun e => by have := (vb pb e).1; omega
        have HPf : Hid ((w6.setCell ⟨g2, ps.length * 2 + 1, none⟩ (.slice (some ⟨gg, 0, none⟩) (p.code.length + 1) cap6)).heap[pb]? = some (.cells #[v1, .slice (some ⟨g2, 0, none⟩) (ps.length + 1) cap2, v3] 147 (0, 0))) := (Below.heap_setCell _ _ _ _ npg).trans ((hk6 pb (by omega) hup).trans Hp.out)
        have HFf : Hid (FrP pb base w0 (w6.setCell ⟨g2, ps.length * 2 + 1, none⟩ (.slice (some ⟨gg, 0, none⟩) (p.code.length + 1) cap6))) := by
          refine ⟨?_, fun g hg hn => (Below.heap_setCell _ _ _ _ (by show g ≠ g2; omega)).trans (hk6 g (by omega) (fun e => by have := (vb g e).1; omega))⟩
          have h2 : Below pb w0 w6 := ⟨hgr.os, hgr.tape, hgr.output, s6, fun g hg => hk6 g (by omega) (fun e => by have := (vb g e).1; omega)⟩
          exact h2.setCell (p := ⟨g2, ps.length * 2 + 1, none⟩) (by show pb ≤ g2; omega) _
        have HS6 : Hid (base ≤ w6.heap.size) := by show _ ≤ _; omega
        clear hown hgr hat hk6 vb hat'
        go_wp2_with fail
        go_ret
        exact ⟨.inl ⟨_, HV.out, rfl, _, _, _, _, HPf.out, HOf.out, hpb, by rw [World.size_setCell]; exact HS6.out⟩, HFR0.out.trans HFf.out⟩
  · have HV : Hid (takeI c t = none) := by show _ = _; unfold takeI; rw [h1]
    clear h1
    go_wp2
    go_ret
    exact ⟨.inr ⟨HV.out, rfl⟩, HFR.out⟩
end Go.Proofs.YtpkohocjgnodnaaGreatDoor
