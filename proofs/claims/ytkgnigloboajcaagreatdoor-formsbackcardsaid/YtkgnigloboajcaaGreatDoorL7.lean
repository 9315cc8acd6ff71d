/- The book's lists, of any kind.; The book's marks of texts.; The book's ownTexts: over lists that lie apart.; The book's ownData: over lists that lie apart.; The book's own.. over no list at all: true.; The book with lists of texts and of data.; The book's Own.; A list put into the book.; Data put into the book, each list of them. -/
import Derived.Test.YtkgnigloboajcaaGreatDoorK41
import Derived.Laws.AppendOwn
import Derived.Laws.OwnMore
import Derived.OneCell
import Derived.Laws.IdiomStrings
import Derived.Deep.QuietTactic
import Derived.BigQuiet
import Derived.Handy
set_option maxRecDepth 100000
set_option maxHeartbeats 8000000
namespace Go.Proofs.YtkgnigloboajcaaGreatDoor
open Go.RowKit
theorem heap_lt {w:World} {b:Nat} {o:Obj} (h:w.heap[b]?=some o):b<w.heap.size:=(Array.getElem?_eq_some_iff.1 h).1
theorem heap_cell {w:World} {b j:Nat} {cs:Array Value} {t:TypeId} {v:Value} (h:w.heap[b]?=some (.cells cs t (0,0))) (hv:cs[j]?=some v):w.cell? ⟨b,j,none⟩=some v:=by
 simp only [World.cell?,h];exact hv
theorem ty_ne {w:World} {g h:Nat} {cs ds:Array Value} {t u:TypeId} (hg:w.heap[g]?=some (.cells cs t (0,0))) (hh:w.heap[h]?=some (.cells ds u (0,0))) (hn:t≠u):g≠h:=fun e=>by
 subst e
 rw [hg] at hh
 cases hh
 exact hn rfl
theorem own_blk {w:World} {base e size n g:Nat} {v:Value} {xs:List Value} (h:w.ownsRow base e size v n xs) (hg:v.ownBlock=some g):∃cs,w.heap[g]?=some (.cells cs e (0,0)):=by
 rcases h.2 with ⟨h', _⟩|⟨g', cap,cur,hv,_,hh,_⟩
 ·rw [h'] at hg;cases hg
 ·rw [hv] at hg
  cases hg
  exact ⟨cur,hh⟩
theorem field_n (k n:Int) (t s d:Value) (w:World):(Instr.field 32 (.agg #[.int .u8 k, .int .i64 n,t,s,d]) 1).run Tryz.prog w = .ok (.int .i64 n) w:=by
 have u1:=Tryz.underlying32
 unfold Instr.field
 go_simp
 simp [asAgg,Sem.run_pure]
def FrQ (A:Nat→Prop) (w w' : World):Prop:=Below 0 w w' ∧ ∀g,A g→g<w.heap.size→w'.heap[g]?=w.heap[g]?
theorem FrQ.trans {A:Nat→Prop} {w w' w'' : World} (h:FrQ A w w') (k:FrQ A w' w''):FrQ A w w'' := ⟨h.1.trans k.1,fun g hg hl=>(k.2 g hg (Nat.lt_of_lt_of_le hl h.1.size)).trans (h.2 g hg hl)⟩
theorem FrQ.refl (A:Nat→Prop) (w:World):FrQ A w w:=⟨Below.refl _ _,fun _ _ _=>rfl⟩
theorem FrQ.of {A:Nat→Prop} {B:Nat} {w w' : World} (h:Below B w w') (hA:∀g,A g→g<w.heap.size→g<B):FrQ A w w' := ⟨h.mono (Nat.zero_le _),fun g hg hl=>h.block g (hA g hg hl)⟩
theorem own_sl {w:World} {base e size n:Nat} {v:Value} {xs:List Value} (h:w.ownsRow base e size v n xs):∃ra cap,v = .slice ra n cap:=own_slice h
structure Knd where
 e:Nat
 sz:Nat
 lt:Nat
 mark:Int→Int→List Value
 len:∀i k,(mark i k).length=sz
 pos:0<sz
 ne:lt≠e
theorem own_below {w w' : World} {b e n c:Nat} {v:Value} {xs:List Value} (h:w.ownsRow b e c v n xs) (hb:Below w.heap.size w w'):w'.ownsRow b e c v n xs:=own_same h (fun g hg=>hb.block g (h.lt g hg).2)
structure Held (K:Knd) (Q:Nat→Prop) (N B:Nat) (V:Nat→Value) (n:Nat→Nat) (W:World) (X:Nat→List Value):Prop where
 cell:∀j,j<N→W.cell? ⟨B,j,none⟩=some (V j)
 own:∀j,j<N→W.ownsRow 0 K.e K.sz (V j) (n j) (X j)
 apart:∀j j', j<N→j' < N→j≠j' → ∀g,(V j).ownBlock=some g→(V j').ownBlock≠some g
 off:∀j,j<N→(V j).ownBlock≠some B
 lt:B<W.heap.size
 nq:∀j,j<N→∀g,(V j).ownBlock=some g→¬ Q g
def marks (K:Knd) (i:Int):Nat→List Value
 | 0=>[]
 | m+1=>marks K i m++K.mark i m
theorem marks_len (K:Knd) (i:Int) (m:Nat):(marks K i m).length=m*K.sz:=by
 induction m with
 | zero=>simp [marks]
 | succ m ih=>rw [marks,List.length_append,ih,K.len];rw [Nat.succ_mul]
theorem Held.stored {K:Knd} {Q:Nat→Prop} {N B:Nat} {V:Nat→Value} {n:Nat→Nat} {W:World} {X:Nat→List Value} (h:Held K Q N B V n W X) {j g cap:Nat} (hj:j<N) (hv:V j = .slice (some ⟨g,0,none⟩) (n j) cap) (o:Nat) (u:Value) :
  Held K Q N B V n (W.setCell ⟨g,o,none⟩ u) (fun i=>if i=j then (X j).set o u else X i):=by
 have hg:(V j).ownBlock=some g:=by rw [hv];rfl
 have hne:g≠B:=fun e=>h.off j hj (e ▸ hg)
 refine ⟨fun i hi=>?_,fun i hi=>?_,h.apart,h.off,?_,h.nq⟩
 ·have e:=Below.heap_setCell W ⟨g,o,none⟩ u B (fun e=>hne e.symm)
  have:=h.cell i hi
  simp only [World.cell?] at this ⊢
  rw [e];exact this
 ·by_cases e:i=j
  ·subst e
   rw [if_pos rfl,hv]
   have:=h.own i hi
   rw [hv] at this
   exact (this.stored o u).1
  ·rw [if_neg e]
   exact ownsRow_setCell_other (h.own i hi) (h.apart j i hj hi (fun e' => e e'.symm) g hg) u
 ·rw [World.size_setCell];exact h.lt
theorem Held.at {K:Knd} {Q:Nat→Prop} {N B:Nat} {V:Nat→Value} {n:Nat→Nat} {W:World} {X:Nat→List Value} (h:Held K Q N B V n W X) {j g cap:Nat} (hj:j<N) (hv:V j = .slice (some ⟨g,0,none⟩) (n j) cap) (o:Nat) (ho:o<n j*K.sz) :
  (∃u,W.cell? ⟨g,o,none⟩=some u)∧W.frozen? ⟨g,o,none⟩=false:=by
 have:=h.own j hj
 rw [hv] at this
 refine ⟨?_,this.frozenAt o⟩
 rw [this.cellAt o ho]
 have hl:=this.1
 exact ⟨_,List.getElem?_eq_getElem (by omega)⟩
theorem Held.congr {K:Knd} {Q:Nat→Prop} {N B:Nat} {V:Nat→Value} {n:Nat→Nat} {W:World} {X Y:Nat→List Value} (h:Held K Q N B V n W X) (e:∀j,j<N→X j=Y j):Held K Q N B V n W Y :=
 ⟨h.cell,fun j hj=>e j hj ▸ h.own j hj,h.apart,h.off,h.lt,h.nq⟩
theorem Held.kept {K:Knd} {Q:Nat→Prop} {N B:Nat} {V:Nat→Value} {n:Nat→Nat} {W W' : World} {X:Nat→List Value} {row:Option Nat} (h:Held K Q N B V n W X) (hg:W.grownBy W' row) (hB:row≠some B)
  (hr:∀j,j<N→W'.ownsRow 0 K.e K.sz (V j) (n j) (X j)∨∀g,(V j).ownBlock=some g→row≠some g):Held K Q N B V n W' X:=by
 refine ⟨fun j hj=>?_,fun j hj=>?_,h.apart,h.off,Nat.lt_of_lt_of_le h.lt hg.size,h.nq⟩
 ·have e:=hg.block B h.lt (fun e=>hB e.symm)
  have:=h.cell j hj
  simp only [World.cell?] at this ⊢
  rw [e];exact this
 ·rcases hr j hj with h' | h'
  ·exact h'
  ·refine (h.own j hj).kept hg ?_
   cases hv:(V j).ownBlock with
   | none=>exact .inl rfl
   | some g=>exact .inr (fun e=>h' g hv e.symm)
theorem Held.alloc {K:Knd} {Q:Nat→Prop} {N B:Nat} {V:Nat→Value} {n:Nat→Nat} {W:World} {X:Nat→List Value} (h:Held K Q N B V n W X) (o:Obj):Held K Q N B V n (W.alloc o) X :=
 h.kept (World.grownBy_alloc W o none) (by simp) (fun j _ => .inr (fun g _=>by simp))
theorem own_types {W:World} {b b' e e' c c' n n' : Nat} {v v' : Value} {xs xs' : List Value} (h:W.ownsRow b e c v n xs) (h' : W.ownsRow b' e' c' v' n' xs') (hne:e≠e'):∀g,v.ownBlock=some g→v'.ownBlock≠some g:=by
 intro g hg hg'
 rcases h.2 with ⟨rfl,_⟩|⟨g1,_,_,rfl,_,hh,_⟩
 ·simp [Value.ownBlock] at hg
 rcases h'.2 with ⟨rfl,_⟩|⟨g2,_,_,rfl,_,hh', _⟩
 ·simp [Value.ownBlock] at hg'
 simp only [Value.ownBlock,Option.some.injEq] at hg hg'
 subst hg hg'
 rw [hh] at hh'
 cases hh'
 exact hne rfl
structure Longs (K:Knd) (Q:Nat→Prop) (N B:Nat) (V:Nat→Value) (n:Nat→Nat) (k:Nat) (v:Value) (L:Nat→Value) (W:World):Prop where
 held:Held K Q N B V n W (fun j=>marks K j (n j))
 own:∀j,j<k→W.ownsRow 0 K.e K.sz (L j) (n j+16) (marks K j (n j)++marks K (-1-(j:Int)) 16)
 apart:∀j j', j<k→j' < N→j' ≠ j→∀g,(V j').ownBlock=some g→(L j).ownBlock≠some g
 row:W.ownsRow 0 K.lt 1 v k ((List.range k).map L)
 off:v.ownBlock≠some B
 nq:∀g,v.ownBlock=some g→¬ Q g
structure Grow (K:Knd) (Q:Nat→Prop) (N B:Nat) (V:Nat→Value) (n:Nat→Nat) (k:Nat) (v:Value) (L:Nat→Value) (q:Nat) (x:Value) (W:World):Prop where
 longs:Longs K Q N B V n k v L W
 own:W.ownsRow 0 K.e K.sz x (n k+q) (marks K k (n k)++marks K (-1-(k:Int)) q)
 ap1:∀j', j' < N→j' ≠ k→∀g,(V j').ownBlock=some g→x.ownBlock≠some g
 ap2:∀j,j<k→∀g,(L j).ownBlock=some g→x.ownBlock≠some g
 ap3:x.ownBlock≠some B
 nq:∀g,x.ownBlock=some g→¬ Q g
theorem Longs.alloc {K:Knd} {Q:Nat→Prop} {N B:Nat} {V:Nat→Value} {n:Nat→Nat} {k:Nat} {v:Value} {L:Nat→Value} {W:World} (h:Longs K Q N B V n k v L W) (o:Obj):Longs K Q N B V n k v L (W.alloc o) :=
 ⟨h.held.alloc o,fun j hj=>(h.own j hj).alloc o,h.apart,h.row.alloc o,h.off,h.nq⟩
theorem Grow.alloc {K:Knd} {Q:Nat→Prop} {N B:Nat} {V:Nat→Value} {n:Nat→Nat} {k:Nat} {v:Value} {L:Nat→Value} {q:Nat} {x:Value} {W:World} (h:Grow K Q N B V n k v L q x W) (o:Obj):Grow K Q N B V n k v L q x (W.alloc o) :=
 ⟨h.longs.alloc o,h.own.alloc o,h.ap1,h.ap2,h.ap3,h.nq⟩
theorem Grow.start {K:Knd} {Q:Nat→Prop} {N B:Nat} {V:Nat→Value} {n:Nat→Nat} {k:Nat} {v:Value} {L:Nat→Value} {W:World} (h:Longs K Q N B V n k v L W) (hk:k<N):Grow K Q N B V n k v L 0 (V k) W :=
 ⟨h,by simpa [marks] using h.held.own k hk,fun j' hj' hne g hg hg' => h.held.apart j' k hj' hk hne g hg hg',
  fun j hj g hg hg' => h.apart j k hj hk (by omega) g hg' hg,h.held.off k hk,h.held.nq k hk⟩
theorem Grow.step {K:Knd} {Q:Nat→Prop} {N B:Nat} {V:Nat→Value} {n:Nat→Nat} {k:Nat} {v:Value} {L:Nat→Value} {q:Nat} {x x' : Value} {W W' : World} (h:Grow K Q N B V n k v L q x W) (hk:k<N)
  (hown:W'.ownsRow 0 K.e K.sz x' (n k+q+1) (marks K k (n k)++marks K (-1-(k:Int)) q++K.mark (-1-(k:Int)) q)) (hg:W.grownBy W' x.ownBlock)
  (hold:W'.ownsRow 0 K.e K.sz x (n k+q) (marks K k (n k)++marks K (-1-(k:Int)) q)) (hw:x'.ownBlock=x.ownBlock∨x'.ownBlock=some W.heap.size) (hQ:∀g,Q g→g<W.heap.size):Grow K Q N B V n k v L (q+1) x' W' := by
 have hvx:∀g,v.ownBlock=some g→x.ownBlock≠some g:=own_types h.longs.row h.own K.ne
 have fresh:∀{u:Value} {e c m:Nat} {xs:List Value},W.ownsRow 0 e c u m xs→∀g,u.ownBlock=some g→x.ownBlock≠some g→x'.ownBlock≠some g:=by
  intro u e c m xs hu g hgu hne
  rcases hw with e' | e'
  ·rw [e'];exact hne
  ·rw [e']
   have:=(hu.lt g hgu).2
   simp;omega
 have keep:∀{u:Value} {e c m:Nat} {xs:List Value},W.ownsRow 0 e c u m xs→(∀g,u.ownBlock=some g→x.ownBlock≠some g)→W'.ownsRow 0 e c u m xs:=by
  intro u e c m xs hu hne
  refine hu.kept hg ?_
  cases hv:u.ownBlock with
  | none=>exact .inl rfl
  | some g=>exact .inr (fun e=>hne g hv e.symm)
 refine ⟨⟨h.longs.held.kept hg h.ap3 (fun j hj=>?_),fun j hj=>keep (h.longs.own j hj) (h.ap2 j hj),h.longs.apart,keep h.longs.row hvx,h.longs.off,h.longs.nq⟩,?_,?_,?_,?_,?_⟩
 ·by_cases e:j=k
  ·subst e
   exact .inl (own_told (h.longs.held.own j hj) h.own hold hg)
  ·exact .inr (h.ap1 j hj e)
 ·rw [marks, ←List.append_assoc];exact hown
 ·intro j' hj' hne g hgv
  exact fresh (h.longs.held.own j' hj') g hgv (h.ap1 j' hj' hne g hgv)
 ·intro j hj g hgl
  exact fresh (h.longs.own j hj) g hgl (h.ap2 j hj g hgl)
 ·rcases hw with e' | e'
  ·rw [e'];exact h.ap3
  ·rw [e'];have:=h.longs.held.lt;simp;omega
 ·intro g hg' hq
  rcases hw with e' | e'
  ·rw [e'] at hg'; exact h.nq g hg' hq
  ·rw [e'] at hg'
   have:=hQ g hq
   have:=Option.some.inj hg'
   omega
theorem Grow.put {K:Knd} {Q:Nat→Prop} {N B:Nat} {V:Nat→Value} {n:Nat→Nat} {k:Nat} {v v' : Value} {L:Nat→Value} {x:Value} {W W' : World} (h:Grow K Q N B V n k v L 16 x W) (hk:k<N)
  (hown:W'.ownsRow 0 K.lt 1 v' (k+1) ((List.range k).map L++[x])) (hg:W.grownBy W' v.ownBlock) (hw:v'.ownBlock=v.ownBlock∨v'.ownBlock=some W.heap.size) (hQ:∀g,Q g→g<W.heap.size) :
  Longs K Q N B V n (k+1) v' (fun j=>if j=k then x else L j) W' := by
 have keep:∀{u:Value} {m:Nat} {xs:List Value},W.ownsRow 0 K.e K.sz u m xs→W'.ownsRow 0 K.e K.sz u m xs:=by
  intro u m xs hu
  refine hu.kept hg ?_
  cases hv:u.ownBlock with
  | none=>exact .inl rfl
  | some g=>exact .inr (fun e=>own_types hu h.longs.row (Ne.symm K.ne) g hv e.symm)
 refine ⟨h.longs.held.kept hg h.longs.off (fun j hj => .inl (keep (h.longs.held.own j hj))),?_,?_,?_,?_,?_⟩
 ·intro j hj
  by_cases e:j=k
  ·subst e;simp only [if_true];exact keep h.own
  ·simp only [if_neg e];exact keep (h.longs.own j (by omega))
 ·intro j j' hj hj' hne g hgv
  by_cases e:j=k
  ·subst e;simp only [if_true];exact h.ap1 j' hj' hne g hgv
  ·simp only [if_neg e];exact h.longs.apart j j' (by omega) hj' hne g hgv
 ·rw [List.range_succ,List.map_append]
  have e1:(List.range k).map (fun j=>if j=k then x else L j)=(List.range k).map L:=by
   apply List.map_congr_left
   intro j hj
   have:=List.mem_range.1 hj
   rw [if_neg (by omega)]
  rw [e1];simpa using hown
 ·rcases hw with e' | e'
  ·rw [e'];exact h.longs.off
  ·rw [e'];have:=h.longs.held.lt;simp;omega
 ·intro g hg' hq
  rcases hw with e' | e'
  ·rw [e'] at hg'; exact h.longs.nq g hg' hq
  ·rw [e'] at hg'
   have:=hQ g hq
   have:=Option.some.inj hg'
   omega
theorem marks_get (K:Knd) (i:Int) (n m j:Nat) (hm:m<n) (hj:j<K.sz):(marks K i n)[m*K.sz+j]?=(K.mark i m)[j]?:=by
 induction n with
 | zero=>omega
 | succ n ih =>
  rw [marks]
  have hl:=marks_len K i n
  by_cases e:m=n
  ·subst e
   rw [List.getElem?_append_right (by omega),hl,show m*K.sz+j-m*K.sz=j by omega]
  ·have:m*K.sz+K.sz≤n*K.sz:=by rw [←Nat.succ_mul];exact Nat.mul_le_mul_right _ (by omega)
   rw [List.getElem?_append_left (by omega)]
   exact ih (by omega)
def Elm (K:Knd) (W:World) (g m:Nat) (i k:Int):Prop:=∀j,j<K.sz→W.cell? ⟨g,m*K.sz+j,none⟩=(K.mark i k)[j]?
theorem elm_of {K:Knd} {W:World} {g n cap m:Nat} {xs:List Value} {i k:Int} (h:W.ownsRow 0 K.e K.sz (.slice (some ⟨g,0,none⟩) n cap) n xs) (hm:m<n) (hx:∀j,j<K.sz→xs[m*K.sz+j]?=(K.mark i k)[j]?):Elm K W g m i k:=fun j hj=>by
 have:m*K.sz+K.sz≤n*K.sz:=by rw [←Nat.succ_mul];exact Nat.mul_le_mul_right _ (by omega)
 rw [h.cellAt _ (by omega)]
 exact hx j hj
theorem Longs.below {K:Knd} {Q:Nat→Prop} {N B:Nat} {V:Nat→Value} {n:Nat→Nat} {k:Nat} {v:Value} {L:Nat→Value} {W W' : World} (h:Longs K Q N B V n k v L W) (hb:Below W.heap.size W W'):Longs K Q N B V n k v L W' :=
 ⟨⟨fun j hj=>(hb.cell (p:=⟨B,j,none⟩) h.held.lt).trans (h.held.cell j hj),fun j hj=>own_below (h.held.own j hj) hb,h.held.apart,h.held.off,Nat.lt_of_lt_of_le h.held.lt hb.size,h.held.nq⟩,
  fun j hj=>own_below (h.own j hj) hb,h.apart,own_below h.row hb,h.off,h.nq⟩
theorem Longs.reads {K:Knd} {Q:Nat→Prop} {N B:Nat} {V:Nat→Value} {n:Nat→Nat} {v:Value} {L:Nat→Value} {W:World} (h:Longs K Q N B V n N v L W) {k:Nat} (hk:k<N) :
  ∃h5 c5 gl cl,v = .slice (some ⟨h5,0,none⟩) N c5∧W.cell? ⟨h5,k,none⟩=some (.slice (some ⟨gl,0,none⟩) (n k+16) cl)∧W.cell? ⟨B,k,none⟩=some (V k) ∧
   (∀m,m<n k→Elm K W gl m k m)∧(∀q,q<16→Elm K W gl (n k+q) (-1-(k:Int)) q)∧(∀m,m<n k→∃g cap,V k = .slice (some ⟨g,0,none⟩) (n k) cap∧Elm K W g m k m)∧(∃ra cap,V k = .slice ra (n k) cap):=by
 have hrow:=h.row
 rcases hrow.2 with ⟨_,h0⟩|⟨h5,c5,cur5,hv5,_⟩
 ·omega
 have hl:=h.own k hk
 rcases hl.2 with ⟨_,h0⟩|⟨gl,cl,curl,hvl,_⟩
 ·omega
 subst hv5
 have hc:=hrow.cellAt k (by omega)
 rw [List.getElem?_map,List.getElem?_range hk] at hc
 rw [hvl] at hl
 have hml:=marks_len K k (n k)
 refine ⟨h5,c5,gl,cl,rfl,by rw [hc];simp [hvl],h.held.cell k hk,fun m hm=>elm_of hl (by omega) fun j hj=>?_,fun q hq=>elm_of hl (by omega) fun j hj=>?_,fun m hm=>?_,?_⟩
 ·have:m*K.sz+K.sz≤n k*K.sz:=by rw [←Nat.succ_mul];exact Nat.mul_le_mul_right _ (by omega)
  rw [List.getElem?_append_left (by omega)];exact marks_get _ _ _ _ _ hm hj
 ·have e:(n k+q)*K.sz=n k*K.sz+q*K.sz:=Nat.add_mul _ _ _
  rw [List.getElem?_append_right (by omega),hml,show (n k+q)*K.sz+j-n k*K.sz=q*K.sz+j by omega];exact marks_get _ _ _ _ _ hq hj
 ·have ho:=h.held.own k hk
  rcases ho.2 with ⟨_,h0⟩|⟨g,cap,cur,hv,_⟩
  ·omega
  ·rw [hv] at ho
   exact ⟨g,cap,hv,elm_of ho hm fun j hj=>marks_get _ _ _ _ _ hm hj⟩
 ·rcases (h.held.own k hk).2 with ⟨h,h0⟩|⟨g,cap,cur,hv,_⟩
  ·exact ⟨none,0,by rw [h,h0]⟩
  ·exact ⟨_,cap,hv⟩
theorem FrQ.alloc {Q:Nat→Prop} {w w' : World} (h:FrQ Q w w') (o:Obj):FrQ Q w (w'.alloc o):=⟨h.1.alloc (Nat.zero_le _) o,fun g hg hl=>(Below.heap_alloc _ _ _ (Nat.lt_of_lt_of_le hl h.1.size)).trans (h.2 g hg hl)⟩
theorem FrQ.setCell {Q:Nat→Prop} {w w' : World} (h:FrQ Q w w') {g o:Nat} (hg:¬ Q g) (u:Value):FrQ Q w (w'.setCell ⟨g,o,none⟩ u):=⟨h.1.setCell (p:=⟨g,o,none⟩) (Nat.zero_le _) u,fun k hk hl=>(Below.heap_setCell _ _ _ _ (fun e=>hg (by rw [←show k=g from e];exact hk))).trans (h.2 k hk hl)⟩
theorem FrQ.grown {Q:Nat→Prop} {w w' w'' : World} {v:Value} (h:FrQ Q w w') (hg:w'.grownBy w'' v.ownBlock) (hn:∀g,v.ownBlock=some g→¬ Q g):FrQ Q w w'' := ⟨h.1.grown hg (Nat.zero_le _) (fun _ _=>Nat.zero_le _),fun g hq hl=>(hg.block g (Nat.lt_of_lt_of_le hl h.1.size) (fun e=>hn g e.symm hq)).trans (h.2 g hq hl)⟩
theorem cellQ_one (W:World) (a0:Value) (t:TypeId) (j:Nat) (u:Value) (h:[a0][j]?=some u):(W.alloc (.cells #[a0] t)).cell? ((⟨W.heap.size,0,none⟩:Addr).add j)=some u:=by
 rw [ad_add,Nat.zero_add]
 exact new_cell _ #[a0] _ j u (by rw [List.getElem?_toArray];exact h)
theorem own_slice_one {W:World} {b e c n:Nat} {v:Value} {xs:List Value} (h:W.ownsRow b e c v n xs):∀u∈[v],u.oneCell' = true:=by
 intro u hu
 obtain rfl:u=v:=by simpa using hu
 rcases h.2 with ⟨rfl,_⟩|⟨g,cap,cur,rfl,_⟩<;>rfl
theorem Held.below {K:Knd} {Q:Nat→Prop} {N B:Nat} {V:Nat→Value} {n:Nat→Nat} {W W' : World} {X:Nat→List Value} (h:Held K Q N B V n W X) (hb:Below W.heap.size W W'):Held K Q N B V n W' X :=
 ⟨fun j hj=>(hb.cell (p:=⟨B,j,none⟩) h.lt).trans (h.cell j hj),fun j hj=>own_below (h.own j hj) hb,h.apart,h.off,Nat.lt_of_lt_of_le h.lt hb.size,h.nq⟩
theorem add_run (x y:List UInt8) (hx:x.length≤8388608) (hy:y.length≤8388608) (w:World):(Op.stringOp .add ⟨x.toArray⟩ ⟨y.toArray⟩).run Tryz.prog w = .ok (S (x++y)) w :=
 run_string_add_lists w x y (by omega) (by omega)
def mkP (a b:Nat):List UInt8:=[UInt8.ofNat (97+a % 26),UInt8.ofNat (97+a / 26 % 26),UInt8.ofNat (97+a / 676 % 26),UInt8.ofNat (97+b % 26),UInt8.ofNat (97+b / 26 % 26)]
abbrev mkO (a b:Nat):Obj := .cells #[.int .u8 (97+(a:Int) % 26), .int .u8 (97+(a:Int) / 26 % 26), .int .u8 (97+(a:Int) / 676 % 26), .int .u8 (97+(b:Int) % 26), .int .u8 (97+(b:Int) / 26 % 26)] 5
theorem byteU (n:Nat):((UInt8.ofNat (97+n % 26)).toNat:Int)=97+(n:Int) % 26:=by rw [UInt8.toNat_ofNat'];omega
theorem conv_mark (a b:Nat) (w:World):(convert 152 9 (.slice (some ⟨w.heap.size,0,none⟩) 5 5)).run Tryz.prog (w.alloc (mkO a b)) = .ok (S (mkP a b)) (w.alloc (mkO a b)):=by
 refine run_convert_bytes_back (P:=Tryz.prog) (w.alloc (mkO a b)) 152 9 5 ⟨w.heap.size,0,none⟩ 5 (mkP a b) Tryz.underlying152 Tryz.underlying5 Tryz.underlying9 (fun j hj=>?_)
 have hj5:j=0∨j=1∨j=2∨j=3∨j=4:=by have:j<5:=hj;omega
 have hn:=World.alloc_heap_new w (mkO a b)
 have g:∀(k n:Nat),(mkP a b)[k]?=some (UInt8.ofNat (97+n % 26))→(w.alloc (mkO a b)).cell? ⟨w.heap.size,k,none⟩=some (.int .u8 (97+(n:Int) % 26))→k=j→(w.alloc (mkO a b)).cell? ((⟨w.heap.size,0,none⟩:Addr).add j)=some (.int .u8 (((mkP a b)[j]).toNat:Int)):=fun k n h1 h2 hk=>by
  subst hk
  have e:(mkP a b)[k]=UInt8.ofNat (97+n % 26):=by rw [List.getElem?_eq_getElem hj] at h1;exact Option.some.inj h1
  have e2:((⟨w.heap.size,0,none⟩:Addr).add k)=⟨w.heap.size,k,none⟩:=by simp [Addr.add];exact fun h=>h.symm
  rw [e,byteU,e2]
  exact h2
 have hcl:∀(k:Nat) (v:Value),(#[.int .u8 (97+(a:Int) % 26), .int .u8 (97+(a:Int) / 26 % 26), .int .u8 (97+(a:Int) / 676 % 26), .int .u8 (97+(b:Int) % 26), .int .u8 (97+(b:Int) / 26 % 26)]:Array Value)[k]?=some v→(w.alloc (mkO a b)).cell? ⟨w.heap.size,k,none⟩=some v:=fun k v h=>heap_cell hn h
 rcases hj5 with rfl|rfl|rfl|rfl|rfl
 ·exact g 0 a rfl (hcl 0 _ rfl) rfl
 ·exact g 1 (a / 26) rfl (hcl 1 _ rfl) rfl
 ·exact g 2 (a / 676) rfl (hcl 2 _ rfl) rfl
 ·exact g 3 b rfl (hcl 3 _ rfl) rfl
 ·exact g 4 (b / 26) rfl (hcl 4 _ rfl) rfl
theorem mark_nat (a b:Nat) (w:World) (ha:a≤1000000000) (hb:b≤1000000000) :
  Calls Tryz.prog 111 #[.int .i64 (a:Int), .int .i64 (b:Int)] w fun e w' => e = .returned (S (mkP a b))∧Below w.heap.size w w' := by
 have kc:=conv_mark a b w
 have Hal:Hid (Below w.heap.size w (w.alloc (mkO a b))):=(Below.refl _ w).alloc (Nat.le_refl _) _
 have i1:¬ (a:Int)<0:=by omega
 generalize mkP a b=t at *
 go_enter Tryz.func111,Tryz.ntmps111
 go_wp2
 go_ret
 exact ⟨rfl,Hal.out⟩
def mkT (a b:Int):List UInt8:=if a<0 then 45::mkP (-a).toNat b.toNat else mkP a.toNat b.toNat
theorem mkP_len (a b:Nat):(mkP a b).length=5:=rfl
theorem mark_any (a b:Int) (w:World) (ha : -1000000000≤a∧a≤1000000000) (hb:0≤b∧b≤1000000000) :
  Calls Tryz.prog 111 #[.int .i64 a, .int .i64 b] w fun e w' => e = .returned (S (mkT a b))∧Below w.heap.size w w' := by
 obtain ⟨m,rfl⟩:∃m:Nat,b=(m:Int):=⟨b.toNat,by omega⟩
 by_cases h:a<0
 ·obtain ⟨k,rfl⟩:∃k:Nat,a = -(k:Int):=⟨(-a).toNat,by omega⟩
  have HV:Hid (mkT (-(k:Int)) (m:Int)=[45]++mkP k m):=by
   show _=_
   unfold mkT
   rw [if_pos h,Int.neg_neg,Int.toNat_natCast,Int.toNat_natCast]
   rfl
  have HC:Hid (Calls Tryz.prog 111 #[.int .i64 (k:Int), .int .i64 (m:Int)] w fun e w' => e = .returned (S (mkP k m))∧Below w.heap.size w w'):=mark_nat k m w (by omega) (by omega)
  generalize mkT (-(k:Int)) (m:Int)=t at *
  have hk1:(k:Int)≤1000000000:=by omega
  have ar:=add_run [45] (mkP k m) (by decide) (by rw [mkP_len];decide)
  generalize mkP k m=u at *
  go_enter Tryz.func111,Tryz.ntmps111
  go_wp2_with fail
  refine Calls.mono HC.out ?_
  rintro e w1 ⟨rfl,hb1⟩
  have Hb1:Hid (Below w.heap.size w w1):=hb1
  clear hb1
  go_wp2
  go_ret
  exact ⟨by rw [HV.out];rfl,Hb1.out⟩
 ·obtain ⟨k,rfl⟩:∃k:Nat,a=(k:Int):=⟨a.toNat,by omega⟩
  have e:mkT (k:Int) (m:Int)=mkP k m:=by unfold mkT;rw [if_neg h];rfl
  rw [e]
  exact mark_nat k m w (by omega) (by omega)
def KS:Knd:=⟨9,1,25,fun i k=>[S (mkT i k)],fun _ _=>rfl,by decide,by decide⟩
theorem infoKS:(Tryz.prog.info? 9).map (fun i=>(i.zero,i.size,i.bytes))=some (some (.string ⟨#[]⟩),1,16):=by kernel_rfl
theorem infoLKS:(Tryz.prog.info? 25).map (fun i=>(i.zero,i.size,i.bytes))=some (some (.slice none 0 0),1,24):=by kernel_rfl
theorem mkKS_one (i k:Int):∀u∈KS.mark i k,u.oneCell' = true:=by
 intro u hu
 simp only [KS,List.mem_cons,List.not_mem_nil,or_false] at hu
 subst hu;rfl
theorem Held.putKS {Q:Nat→Prop} {N B:Nat} {V:Nat→Value} {n:Nat→Nat} {W:World} {X:Nat→List Value} (h:Held KS Q N B V n W X) {j g cap m:Nat} (hj:j<N) (hv:V j = .slice (some ⟨g,0,none⟩) (n j) cap) (hm:m<n j)
  (i:Int) (r:List Value) (hx:X j=marks KS i m++r) :
  ∃Z,Held KS Q N B V n (W.setCell ⟨g,m,none⟩ (S (mkT i m))) Z∧(∀j', j' ≠ j→Z j' = X j')∧Z j=marks KS i (m+1)++r.drop 1:=by
 have hl:(X j).length=n j*1:=(h.own j hj).1
 have hml:(marks KS i m).length=m*1:=marks_len KS i m
 have hr:1≤r.length:=by rw [hx,List.length_append,hml] at hl;omega
 have h4:=h.stored hj hv m (S (mkT i m))
 refine ⟨_,h4,fun j' hj' => by simp [hj'],?_⟩
 simp only [if_true]
 rw [hx]
 obtain ⟨x0,r0,rfl⟩:∃x0 r0,r=x0::r0:=by
  cases r with
  | nil=>simp at hr
  | cons x0 r0=>exact ⟨x0,r0,rfl⟩
 rw [List.set_append,if_neg (by omega),hml,Nat.mul_one,Nat.sub_self,marks,List.append_assoc]
 rfl
theorem Grow.below {K:Knd} {Q:Nat→Prop} {N B:Nat} {V:Nat→Value} {n:Nat→Nat} {k:Nat} {v:Value} {L:Nat→Value} {q:Nat} {x:Value} {W W' : World} (h:Grow K Q N B V n k v L q x W) (hb:Below W.heap.size W W'):Grow K Q N B V n k v L q x W' :=
 ⟨h.longs.below hb,own_below h.own hb,h.ap1,h.ap2,h.ap3,h.nq⟩
theorem FrQ.below {Q:Nat→Prop} {w W W' : World} (h:FrQ Q w W) (hb:Below W.heap.size W W'):FrQ Q w W' := h.trans (FrQ.of hb (fun _ _ hg=>hg))
theorem cell_apart {W:World} {B k g m:Nat} {u v:Value} (h:W.cell? ⟨B,k,none⟩=some u) (l:B<W.heap.size) (hn:B≠g):(W.setCell ⟨g,m,none⟩ v).cell? ⟨B,k,none⟩=some u∧B<(W.setCell ⟨g,m,none⟩ v).heap.size :=
 ⟨(World.cell?_of_block (a:=⟨B,k,none⟩) (Below.heap_setCell W ⟨g,m,none⟩ v B hn)).trans h,by rw [World.size_setCell];exact l⟩
theorem keep2T {W W' : World} {b j g m:Nat} {u v:Value} (hb:Below W.heap.size W W') (h1:W.cell? ⟨b,j,none⟩=some u) (l1:b<W.heap.size) (h2:W.cell? ⟨g,m,none⟩=some v) (f2:W.frozen? ⟨g,m,none⟩=false) (l2:g<W.heap.size) :
  W'.cell? ⟨b,j,none⟩=some u∧b<W'.heap.size∧W'.cell? ⟨g,m,none⟩=some v∧W'.frozen? ⟨g,m,none⟩=false∧g<W'.heap.size :=
 ⟨(hb.cell (p:=⟨b,j,none⟩) l1).trans h1,Nat.lt_of_lt_of_le l1 hb.size,(hb.cell (p:=⟨g,m,none⟩) l2).trans h2,(hb.frozen (p:=⟨g,m,none⟩) l2).trans f2,Nat.lt_of_lt_of_le l2 hb.size⟩
theorem ownTexts_any (Q:Nat→Prop) (N B capB:Nat) (V:Nat→Value) (n:Nat→Nat) (X:Nat→List Value) (w:World) (hN:N≤1000000) (hQ:∀g,Q g→g<w.heap.size) (hn:∀j,j<N→n j≤1000000) (H0:Held KS Q N B V n w X) :
  Calls Tryz.prog 58 #[.slice (some ⟨B,0,none⟩) N capB] w fun e w' => e = .returned (.bool true)∧FrQ Q w w' := by
 have HH:Hid (Held KS Q N B V n w X):=H0
 clear H0
 have Hn:Hid (∀j,j<N→n j≤1000000):=hn
 have HQ:Hid (∀g,Q g→g<w.heap.size):=hQ
 clear hn hQ
 obtain ⟨i0,hi,hz0,hz1,hz2⟩:=info_parts infoKS
 obtain ⟨i3,hi3,hy0,hy1,hy2⟩:=info_parts infoLKS
 go_enter Tryz.func58,Tryz.ntmps58
 go_wp2
 go_loopw [3] (fun i wr=>∃(k:Nat) (Y:Nat→List Value),k≤N∧i = .int .i64 k∧Hid (Held KS Q N B V n wr Y)∧Hid (∀j,j<k→Y j=marks KS j (n j))∧Hid (FrQ Q w wr)) (fun i _=>N-(intOf i).toNat)
 case atStart=>exact ⟨0,X,Nat.zero_le _,rfl,HH,fun j h=>absurd h (Nat.not_lt_zero _),FrQ.refl _ _⟩
 case round =>
  obtain ⟨k,Y,hk,rfl,HY,HM,HB⟩:=hrel
  by_cases hlt:k<N
  ·have i1:(k:Int)<(N:Int):=by omega
   have hnk:n k≤1000000:=Hn.out k hlt
   go_wp2
   go_loopw [4] (fun i wr=>∃(m:Nat) (Z:Nat→List Value),m≤n k∧i = .int .i64 m∧Hid (Held KS Q N B V n wr Z)∧Hid (∀j,j<k→Z j=marks KS j (n j))∧Hid (Z k=marks KS k m++(Y k).drop (m*1))∧Hid (FrQ Q w wr)) (fun i _=>n k-(intOf i).toNat)
   case atStart=>exact ⟨0,Y,Nat.zero_le _,rfl,HY,HM,by show _=_;simp [marks],HB⟩
   case round =>
    obtain ⟨m,Z,hm,rfl,HZ,HZM,HZk,HZB⟩:=hrel
    have hc:=HZ.out.cell k hlt
    by_cases hml:m<n k
    ·obtain ⟨g,cap,hv⟩:∃g cap,V k = .slice (some ⟨g,0,none⟩) (n k) cap:=by
      rcases (HZ.out.own k hlt).2 with ⟨_,h0⟩|⟨g,cap,cur,hv,_⟩
      ·omega
      ·exact ⟨g,cap,hv⟩
     rw [hv] at hc
     have hv' : Hid _:=hv
     clear hv
     have i2:(m:Int)<(n k:Int):=by omega
     have h0:=HZ.out
     have hlg:g<wr.heap.size:=((h0.own k hlt).lt g (by rw [hv'.out];rfl)).2
     obtain ⟨⟨c0,hc0⟩,hf0⟩:=h0.at hlt hv'.out m (show m<n k*1 by omega)
     have HPut:Hid (∀w5:World,Below wr.heap.size wr w5→∃Z', Held KS Q N B V n (w5.setCell ⟨g,m,none⟩ (S (mkT k m))) Z' ∧ (∀j', j' ≠ k→Z' j' = Z j')∧Z' k=marks KS k (m+1)++((Y k).drop (m*1)).drop 1):=fun w5 hb=>(h0.below hb).putKS hlt hv'.out hml k _ HZk.out
     have hgb:Hid (¬ Q g):=h0.nq k hlt g (by rw [hv'.out];rfl)
     have hBlt:=h0.lt
     have ngB:B≠g:=fun e=>h0.off k hlt (by rw [hv'.out,e];rfl)
     have HMk:Hid (∀w5:World,Calls Tryz.prog 111 #[.int .i64 (k:Int), .int .i64 (m:Int)] w5 fun e w' => e = .returned (S (mkT k m))∧Below w5.heap.size w5 w'):=fun w5=>mark_any k m w5 ⟨by omega,by omega⟩ ⟨by omega,by omega⟩
     clear h0
     go_upto_region 7 with fail
     go_region_held3 (fun wx:World=>wx.cell? ⟨B,k,none⟩=some (.slice (some ⟨g,0,none⟩) (n k) cap)∧B<wx.heap.size) (first|exact ⟨hc,hBlt⟩|(go_keep;done)|exact ⟨k5,l5⟩|exact cell_apart k5 l5 ngB) (first|(go_at_call 111;refine (HMk.out _).mono ?_;rintro e w5 ⟨rfl,h5⟩;have hb5:Below wr.heap.size wr w5:=((Below.refl _ wr).drew).trans h5;obtain ⟨k5,l5,c5,f5,g5⟩:=keep2T hb5 hc hBlt hc0 hf0 hlg)|fail)
     obtain ⟨Z', hZ', hZo,hZk'⟩:=HPut.out w5 hb5
     have HZ' : Hid _:=hZ'
     have HZo:Hid _:=hZo
     have HZk' : Hid _:=hZk'
     have HF5:Hid (FrQ Q w (w5.setCell ⟨g,m,none⟩ (S (mkT k m)))):=(HZB.out.below hb5).setCell hgb.out _
     clear hZ' hZo hZk' hb5 h5 k5 l5 c5 f5 g5 hc0 hf0 hlg HPut HMk
     go_wp2_with fail
     case roundEnd =>
     refine ⟨⟨m+1,Z', by omega,by go_num,HZ', ?_,?_,HF5⟩,?_⟩
     ·intro j hj;rw [HZo.out j (by omega)];exact HZM.out j hj
     ·show _=_;rw [HZk'.out,List.drop_drop];congr 2
     ·simp [intOf];omega
    ·obtain ⟨ra,cap,hv⟩:∃ra cap,V k = .slice ra (n k) cap:=by
      rcases (HZ.out.own k hlt).2 with ⟨h,h0⟩|⟨g,cap,cur,hv,_⟩
      ·exact ⟨none,0,by rw [h,h0]⟩
      ·exact ⟨_,cap,hv⟩
     rw [hv] at hc
     have hmn:m=n k:=by omega
     have hBlt:=HZ.out.lt
     go_wp2_with fail
     go_roundw
     case rel =>
      refine ⟨k+1,Z,by omega,by go_num,HZ,?_,HZB⟩
      intro j hj
      by_cases e:j=k
      ·subst e
       have hl:(Y j).length=n j*1:=(HY.out.own j hlt).1
       rw [HZk.out,hmn,List.drop_of_length_le (by omega),List.append_nil]
      ·exact HZM.out j (by omega)
     case measure=>simp [intOf];omega
  ·have HL0:Hid (Longs KS Q N B V n 0 (.slice none 0 0) V wr):=⟨HY.out.congr (fun j hj=>HM.out j (by omega)),fun j hj=>absurd hj (Nat.not_lt_zero _),fun j _ hj=>absurd hj (Nat.not_lt_zero _),World.ownsRow_nil _ _ _ _,by simp [Value.ownBlock],fun g hg=>by cases hg⟩
   clear HY HM
   go_wp2
   go_loopw [5,6] (fun v i wr=>∃(k:Nat) (L:Nat→Value),k≤N∧i = .int .i64 k∧Hid (Longs KS Q N B V n k v L wr)∧Hid (FrQ Q w wr)) (fun _ i _=>N-(intOf i).toNat)
   case atStart=>exact ⟨0,V,Nat.zero_le _,rfl,HL0,HB⟩
   case round =>
    obtain ⟨k,L,hk,rfl,HL,HLB⟩:=hrel
    by_cases hlt2:k<N
    ·have i1:(k:Int)<(N:Int):=by omega
     have hc:=HL.out.held.cell k hlt2
     have hBlt:=HL.out.held.lt
     have hnk:n k≤1000000:=Hn.out k hlt2
     go_wp2
     go_loopw [7,8] (fun x i wr=>∃q:Nat,q≤16∧i = .int .i64 q∧Hid (Grow KS Q N B V n k u5 L q x wr)∧Hid (FrQ Q w wr)) (fun _ i _=>16-(intOf i).toNat)
     case atStart=>exact ⟨0,Nat.zero_le _,rfl,Grow.start HL.out hlt2,HLB⟩
     case round =>
      obtain ⟨q,hq,rfl,HG,HGB⟩:=hrel
      have hQr:Hid (∀(o:Obj) g,Q g→g<(wr.alloc o).heap.size):=fun o g hg=>by rw [World.size_alloc];have:=HQ.out g hg;have:=HGB.out.1.size;omega
      by_cases hlq:q<16
      ·have i3:(q:Int)<16:=by omega
       have HMk:Hid (∀w5:World,Calls Tryz.prog 111 #[.int .i64 (-1-(k:Int)), .int .i64 (q:Int)] w5 fun e w' => e = .returned (S (mkT (-1-(k:Int)) q))∧Below w5.heap.size w5 w'):=fun w5=>mark_any _ _ w5 ⟨by omega,by omega⟩ ⟨by omega,by omega⟩
       go_wp2_with fail
       refine Calls.mono (HMk.out _) ?_
       rintro e w5 ⟨rfl,hb5⟩
       have HG5:Hid (Grow KS Q N B V n k u5 L q u7 w5):=HG.out.below hb5
       have HGB5:Hid (FrQ Q w w5):=HGB.out.below hb5
       have hQr5:Hid (∀(o:Obj) g,Q g→g<(w5.alloc o).heap.size):=fun o g hg=>by rw [World.size_alloc];have:=HQ.out g hg;have:=HGB5.out.1.size;omega
       clear hb5 HMk
       go_wp2_with (at_builtin;refine wpList_append_told _ rfl _ _ 25 rfl 0 9 i0 (.string ⟨#[]⟩) 1 16 Tryz.underlying25 hi hz0 hz1 hz2 rfl (by decide) u7 (n k+q) (marks KS k (n k)++marks KS (-1-(k:Int)) q) rfl (HG5.out.own.alloc _) _ 1 1 (KS.mark (-1-(k:Int)) q) rfl rfl (cellQ_one _ _ _) (mkKS_one _ _) (by unfold maxLen;omega) (by omega) (Nat.zero_le _) (by decide) ?_;intro v1 w1 hown1 hgrow1 hold1 hw1)
       have hG1:=(HG5.out.alloc _).step hlt2 hown1 hgrow1 hold1 hw1 (hQr5.out _)
       have hB1:FrQ Q w w1:=(HGB5.out.alloc _).grown hgrow1 HG5.out.nq
       go_roundw
       case rel=>exact ⟨q+1,by omega,by go_num,hG1,hB1⟩
       case measure=>simp [intOf];omega
      ·obtain rfl:q=16:=by omega
       obtain ⟨g7,c7,rfl⟩:∃g7 c7,u7 = .slice (some ⟨g7,0,none⟩) (n k+16) c7:=by
        rcases HG.out.own.2 with ⟨_,h0⟩|⟨g,cap,cur,hv,_⟩
        ·omega
        ·exact ⟨g,cap,hv⟩
       go_wp2_with (at_builtin;refine wpList_append_told _ rfl _ _ 44 rfl 0 25 i3 (.slice none 0 0) 1 24 Tryz.underlying44 hi3 hy0 hy1 hy2 rfl (by decide) u5 k ((List.range k).map L) rfl (HG.out.longs.row.alloc _) _ 1 1 [.slice (some ⟨g7,0,none⟩) (n k+16) c7] rfl rfl (cellQ_one _ _ _) (own_slice_one HG.out.own) (by unfold maxLen;omega) (by omega) (Nat.zero_le _) (by decide) ?_;intro v1 w1 hown1 hgrow1 hold1 hw1)
       have hG1:=(HG.out.alloc _).put hlt2 hown1 hgrow1 hw1 (hQr.out _)
       have hB1:FrQ Q w w1:=(HGB.out.alloc _).grown hgrow1 HG.out.longs.nq
       go_roundw
       case rel=>exact ⟨k+1,_,by omega,by go_num,hG1,hB1⟩
       case measure=>simp [intOf];omega
    ·obtain rfl:k=N:=by omega
     clear hlt2
     go_wp2
     go_loopw [9] (fun i wr=>∃c:Nat,c≤k∧i = .int .i64 c∧Hid (Longs KS Q k B V n k u5 L wr)∧Hid (FrQ Q w wr)) (fun i _=>k-(intOf i).toNat)
     case atStart=>exact ⟨0,Nat.zero_le _,rfl,HL,HLB⟩
     case round =>
      obtain ⟨c,hcN,rfl,HC,HCB⟩:=hrel
      by_cases hlc:c<k
      ·have i1:(c:Int)<(k:Int):=by omega
       have hnc:n c≤1000000:=Hn.out c hlc
       obtain ⟨h5,c5,gl,cl,hv5,_,hcV,_,_,_,ra,cap,hVc⟩:=HC.out.reads hlc
       subst hv5
       rw [hVc] at hcV
       have hBlt:=HC.out.held.lt
       go_wp2
       go_loopw [11] (fun i wr=>∃m:Nat,m≤n c∧i = .int .i64 m∧Hid (Longs KS Q k B V n k (.slice (some ⟨h5,0,none⟩) k c5) L wr)∧Hid (FrQ Q w wr)) (fun i _=>n c-(intOf i).toNat)
       case atStart=>exact ⟨0,Nat.zero_le _,rfl,HC,HCB⟩
       case round =>
        obtain ⟨m,hm,rfl,HM,HMB⟩:=hrel
        by_cases hlm:m<n c
        ·have i2:(m:Int)<(n c:Int):=by omega
         obtain ⟨h5', c5', gl', cl', hv5', hcl,hcV', f1,_,f3,_⟩:=HM.out.reads hlc
         cases hv5'
         obtain ⟨g,cap', hVc', f3'⟩:=f3 m hlm
         have f1' := f1 m hlm
         have a0:wr.cell? ⟨g,m,none⟩=some (S (mkT (c:Int) m)):=by have:=f3' 0 (by decide);simpa [KS] using this
         have b0:wr.cell? ⟨gl', m,none⟩=some (S (mkT (c:Int) m)):=by have:=f1' 0 (by decide);simpa [KS] using this
         rw [hVc'] at hcV'
         clear f1 f3 hcV hVc f1' f3'
         have i4:(m:Int)<(n c:Int)+16:=by omega
         have z:(mkT (c:Int) m == mkT (c:Int) m)=true:=by simp
         have hBl2:=HM.out.held.lt
         have lh5:h5<wr.heap.size:=(HM.out.row.lt h5 rfl).2
         have lg:g<wr.heap.size:=by by_cases q:g<wr.heap.size;exact q;exact absurd a0 (by simp [World.cell?,Array.getElem?_eq_none (Nat.le_of_not_lt q)])
         have lgl:gl' < wr.heap.size:=by by_cases q:gl' < wr.heap.size;exact q;exact absurd b0 (by simp [World.cell?,Array.getElem?_eq_none (Nat.le_of_not_lt q)])
         have HMk:Hid (∀w5:World,Calls Tryz.prog 111 #[.int .i64 (c:Int), .int .i64 (m:Int)] w5 fun e w' => e = .returned (S (mkT c m))∧Below w5.heap.size w5 w'):=fun w5=>mark_any c m w5 ⟨by omega,by omega⟩ ⟨by omega,by omega⟩
         have HKp:Hid (∀wx:World,Below wr.heap.size wr wx→(wx.cell? ⟨B,c,none⟩=some (.slice (some ⟨g,0,none⟩) (n c) cap')∧wx.cell? ⟨h5,c,none⟩=some (.slice (some ⟨gl', 0,none⟩) (n c+16) cl')∧wx.cell? ⟨g,m,none⟩=some (S (mkT c m))∧wx.cell? ⟨gl', m,none⟩=some (S (mkT c m)))∧B<wx.heap.size∧h5<wx.heap.size∧g<wx.heap.size∧gl' < wx.heap.size):=fun wx hb=>⟨⟨(hb.cell (p:=⟨B,c,none⟩) hBl2).trans hcV', (hb.cell (p:=⟨h5,c,none⟩) lh5).trans hcl,(hb.cell (p:=⟨g,m,none⟩) lg).trans a0,(hb.cell (p:=⟨gl', m,none⟩) lgl).trans b0⟩,Nat.lt_of_lt_of_le hBl2 hb.size,Nat.lt_of_lt_of_le lh5 hb.size,Nat.lt_of_lt_of_le lg hb.size,Nat.lt_of_lt_of_le lgl hb.size⟩
         generalize mkT (c:Int) (m:Int)=tm at *
         go_upto_region 25 with fail
         go_region_held3 (fun wx:World=>(wx.cell? ⟨B,c,none⟩=some (.slice (some ⟨g,0,none⟩) (n c) cap')∧wx.cell? ⟨h5,c,none⟩=some (.slice (some ⟨gl', 0,none⟩) (n c+16) cl')∧wx.cell? ⟨g,m,none⟩=some (S tm)∧wx.cell? ⟨gl', m,none⟩=some (S tm))∧B<wx.heap.size∧h5<wx.heap.size∧g<wx.heap.size∧gl' < wx.heap.size) (first|exact HKp.out _ (Below.refl _ _)|(go_keep;done)|exact HKp.out _ hb6|exact HKp.out _ hb5) (first|(go_at_call 111;refine (HMk.out _).mono ?_;rintro e w5 ⟨rfl,h5x⟩;have hb5:Below wr.heap.size wr w5:=((Below.refl _ wr).drew).trans h5x)|(go_at_call 111;refine (HMk.out _).mono ?_;rintro e w6 ⟨rfl,h6x⟩;have hb6:Below wr.heap.size wr w6:=hb5.trans (h6x.mono hb5.size))|fail)
         all_goals
          have HM6:Hid (Longs KS Q k B V n k (.slice (some ⟨h5,0,none⟩) k c5) L w6):=HM.out.below hb6
          have HB6:Hid (FrQ Q w w6):=HMB.out.below hb6
          clear hb6 hb5 h5x h6x HKp HMk
          go_wp2_with fail
          case roundEnd=>exact ⟨⟨m+1,by omega,by go_num,HM6,HB6⟩,by simp [intOf];omega⟩
        ·go_wp2
         go_loopw [12] (fun i wr=>∃q:Nat,q≤16∧i = .int .i64 q∧Hid (Longs KS Q k B V n k (.slice (some ⟨h5,0,none⟩) k c5) L wr)∧Hid (FrQ Q w wr)) (fun i _=>16-(intOf i).toNat)
         case atStart=>exact ⟨0,Nat.zero_le _,rfl,HM,HMB⟩
         case round =>
          obtain ⟨q,hq16,rfl,HQ2,HQB⟩:=hrel
          by_cases hlq:q<16
          ·have i3:(q:Int)<16:=by omega
           obtain ⟨h5', c5', gl', cl', hv5', hcl,_,_,f2,_,_⟩:=HQ2.out.reads hlc
           cases hv5'
           have f2' := f2 q hlq
           have b0:wr.cell? ⟨gl', n c+q,none⟩=some (S (mkT (-1-(c:Int)) q)):=by have:=f2' 0 (by decide);simpa [KS] using this
           clear f2 hcV hVc f2'
           have i4:(n c:Int)+(q:Int)<(n c:Int)+16:=by omega
           have z:(mkT (-1-(c:Int)) q == mkT (-1-(c:Int)) q)=true:=by simp
           have lh5:h5<wr.heap.size:=(HQ2.out.row.lt h5 rfl).2
           have lgl:gl' < wr.heap.size:=by by_cases q:gl' < wr.heap.size;exact q;exact absurd b0 (by simp [World.cell?,Array.getElem?_eq_none (Nat.le_of_not_lt q)])
           have HMk:Hid (∀w5:World,Calls Tryz.prog 111 #[.int .i64 (-1-(c:Int)), .int .i64 (q:Int)] w5 fun e w' => e = .returned (S (mkT (-1-(c:Int)) q))∧Below w5.heap.size w5 w'):=fun w5=>mark_any _ _ w5 ⟨by omega,by omega⟩ ⟨by omega,by omega⟩
           have HKp:Hid (∀wx:World,Below wr.heap.size wr wx→(wx.cell? ⟨h5,c,none⟩=some (.slice (some ⟨gl', 0,none⟩) (n c+16) cl')∧wx.cell? ⟨gl', n c+q,none⟩=some (S (mkT (-1-(c:Int)) q)))∧h5<wx.heap.size∧gl' < wx.heap.size):=fun wx hb=>⟨⟨(hb.cell (p:=⟨h5,c,none⟩) lh5).trans hcl,(hb.cell (p:=⟨gl', n c+q,none⟩) lgl).trans b0⟩,Nat.lt_of_lt_of_le lh5 hb.size,Nat.lt_of_lt_of_le lgl hb.size⟩
           generalize mkT (-1-(c:Int)) (q:Int)=tm at *
           have i5:(0:Int)≤(n c:Int)+(q:Int):=by omega
           have i6:¬ ((n c:Int)+(q:Int)<0):=by omega
           have i7:¬ ((n c:Int)+16≤(n c:Int)+(q:Int)):=by omega
           have hwv:IntKind.i64.wrap ((n c:Int)+(q:Int))=(n c:Int)+(q:Int):=by rw [IntKind.wrap_i64];omega
           have htn:((n c:Int)+(q:Int)).toNat=n c+q:=by omega
           have hwu:IntKind.i64.wrap (-1-(c:Int)) = -1-(c:Int):=by rw [IntKind.wrap_i64];omega
           go_upto_region 30 with fail
           go_region_held3 (fun wx:World=>(wx.cell? ⟨h5,c,none⟩=some (.slice (some ⟨gl', 0,none⟩) (n c+16) cl')∧wx.cell? ⟨gl', n c+q,none⟩=some (S tm))∧h5<wx.heap.size∧gl' < wx.heap.size) (first|exact HKp.out _ (Below.refl _ _)|(go_keep;done)|exact HKp.out _ hb5) (first|(go_at_call 111;refine (HMk.out _).mono ?_;rintro e w5 ⟨rfl,h5x⟩;have hb5:Below wr.heap.size wr w5:=((Below.refl _ wr).drew).trans h5x)|fail)
           all_goals
            have HM6:Hid (Longs KS Q k B V n k (.slice (some ⟨h5,0,none⟩) k c5) L w5):=HQ2.out.below hb5
            have HB6:Hid (FrQ Q w w5):=HQB.out.below hb5
            clear hb5 h5x HKp HMk
            go_wp2_with fail
            case roundEnd=>exact ⟨⟨q+1,by omega,by go_num,HM6,HB6⟩,by simp [intOf];omega⟩
          ·go_wp2
           go_roundw
           case rel=>exact ⟨c+1,by omega,by go_num,HQ2,HQB⟩
           case measure=>simp [intOf];omega
      ·go_wp2
       go_ret
       exact ⟨rfl,HCB.out⟩
def KD:Knd:=⟨32,5,30,fun i k=>[.int .u8 0, .int .i64 (i*1000+k), .string ⟨#[]⟩, .slice none 0 0, .bool false],fun _ _=>rfl,by decide,by decide⟩
theorem infoKD:(Tryz.prog.info? 32).map (fun i=>(i.zero,i.size,i.bytes))=some (some (.agg #[.int .u8 0, .int .i64 0, .string ⟨#[]⟩, .slice none 0 0, .bool false]),5,64):=by kernel_rfl
theorem infoLKD:(Tryz.prog.info? 30).map (fun i=>(i.zero,i.size,i.bytes))=some (some (.slice none 0 0),1,24):=by kernel_rfl
theorem mkKD_one (i k:Int):∀u∈KD.mark i k,u.oneCell' = true:=by
 intro u hu
 simp only [KD,List.mem_cons,List.not_mem_nil,or_false] at hu
 rcases hu with rfl|rfl|rfl|rfl|rfl<;>rfl
theorem Held.putKD {Q:Nat→Prop} {N B:Nat} {V:Nat→Value} {n:Nat→Nat} {W:World} {X:Nat→List Value} (h:Held KD Q N B V n W X) {j g cap m:Nat} (hj:j<N) (hv:V j = .slice (some ⟨g,0,none⟩) (n j) cap) (hm:m<n j)
  (i:Int) (r:List Value) (hx:X j=marks KD i m++r) :
  ∃Z,Held KD Q N B V n ((((((W.setCell ⟨g,m*5,none⟩ (.int .u8 0)).setCell ⟨g,m*5+1,none⟩ (.int .i64 (i*1000+m))).setCell ⟨g,m*5+2,none⟩ (.string ⟨#[]⟩)).setCell ⟨g,m*5+3,none⟩ (.slice none 0 0)).setCell ⟨g,m*5+4,none⟩ (.bool false))) Z∧(∀j', j' ≠ j→Z j' = X j')∧Z j=marks KD i (m+1)++r.drop 5:=by
 have hl:(X j).length=n j*5:=(h.own j hj).1
 have hml:(marks KD i m).length=m*5:=marks_len KD i m
 have hr:5≤r.length:=by rw [hx,List.length_append,hml] at hl;omega
 have h4:=(((((h.stored hj hv (m*5) (.int .u8 0)).stored hj hv (m*5+1) (.int .i64 (i*1000+m))).stored hj hv (m*5+2) (.string ⟨#[]⟩)).stored hj hv (m*5+3) (.slice none 0 0)).stored hj hv (m*5+4) (.bool false))
 refine ⟨_,h4,fun j' hj' => by simp [hj'],?_⟩
 simp only [if_true]
 rw [hx]
 obtain ⟨x0,x1,x2,x3,x4,r0,rfl⟩:∃x0 x1 x2 x3 x4 r0,r=x0::x1::x2::x3::x4::r0:=by
  rcases r with _|⟨x0,_|⟨x1,_|⟨x2,_|⟨x3,_|⟨x4,r0⟩⟩⟩⟩⟩
  ·simp at hr
  ·simp at hr
  ·simp at hr
  ·simp at hr
  ·simp at hr
  ·exact ⟨x0,x1,x2,x3,x4,r0,rfl⟩
 rw [←hml,marks]
 simp [KD]
theorem ownData_any (Q:Nat→Prop) (N B capB:Nat) (V:Nat→Value) (n:Nat→Nat) (X:Nat→List Value) (w:World) (hN:N≤1000000) (hQ:∀g,Q g→g<w.heap.size) (hn:∀j,j<N→n j≤1000000) (H0:Held KD Q N B V n w X) :
  Calls Tryz.prog 70 #[.slice (some ⟨B,0,none⟩) N capB] w fun e w' => e = .returned (.bool true)∧FrQ Q w w' := by
 have HH:Hid (Held KD Q N B V n w X):=H0
 clear H0
 have Hn:Hid (∀j,j<N→n j≤1000000):=hn
 have HQ:Hid (∀g,Q g→g<w.heap.size):=hQ
 clear hn hQ
 obtain ⟨i0,hi,hz0,hz1,hz2⟩:=info_parts infoKD
 obtain ⟨i3,hi3,hy0,hy1,hy2⟩:=info_parts infoLKD
 go_enter Tryz.func70,Tryz.ntmps70
 go_wp2
 go_loopw [3] (fun i wr=>∃(k:Nat) (Y:Nat→List Value),k≤N∧i = .int .i64 k∧Hid (Held KD Q N B V n wr Y)∧Hid (∀j,j<k→Y j=marks KD j (n j))∧Hid (FrQ Q w wr)) (fun i _=>N-(intOf i).toNat)
 case atStart=>exact ⟨0,X,Nat.zero_le _,rfl,HH,fun j h=>absurd h (Nat.not_lt_zero _),FrQ.refl _ _⟩
 case round =>
  obtain ⟨k,Y,hk,rfl,HY,HM,HB⟩:=hrel
  by_cases hlt:k<N
  ·have i1:(k:Int)<(N:Int):=by omega
   have hnk:n k≤1000000:=Hn.out k hlt
   go_wp2
   go_loopw [4] (fun i wr=>∃(m:Nat) (Z:Nat→List Value),m≤n k∧i = .int .i64 m∧Hid (Held KD Q N B V n wr Z)∧Hid (∀j,j<k→Z j=marks KD j (n j))∧Hid (Z k=marks KD k m++(Y k).drop (m*5))∧Hid (FrQ Q w wr)) (fun i _=>n k-(intOf i).toNat)
   case atStart=>exact ⟨0,Y,Nat.zero_le _,rfl,HY,HM,by show _=_;simp [marks],HB⟩
   case round =>
    obtain ⟨m,Z,hm,rfl,HZ,HZM,HZk,HZB⟩:=hrel
    have hc:=HZ.out.cell k hlt
    by_cases hml:m<n k
    ·obtain ⟨g,cap,hv⟩:∃g cap,V k = .slice (some ⟨g,0,none⟩) (n k) cap:=by
      rcases (HZ.out.own k hlt).2 with ⟨_,h0⟩|⟨g,cap,cur,hv,_⟩
      ·omega
      ·exact ⟨g,cap,hv⟩
     rw [hv] at hc
     have hv' : Hid _:=hv
     clear hv
     have i2:(m:Int)<(n k:Int):=by omega
     have h0:=HZ.out
     have hlg:g<wr.heap.size:=((h0.own k hlt).lt g (by rw [hv'.out];rfl)).2
     have h1:=h0.stored hlt hv'.out (m*5) (.int .u8 0)
     have h2:=h1.stored hlt hv'.out (m*5+1) (.int .i64 ((k:Int)*1000+(m:Int)))
     have h3:=h2.stored hlt hv'.out (m*5+2) (.string ⟨#[]⟩)
     have h4:=h3.stored hlt hv'.out (m*5+3) (.slice none 0 0)
     obtain ⟨⟨c0,hc0⟩,hf0⟩:=h0.at hlt hv'.out (m*5) (show m*5<n k*5 by omega)
     obtain ⟨⟨c1,hc1⟩,hf1⟩:=h1.at hlt hv'.out (m*5+1) (show m*5+1<n k*5 by omega)
     obtain ⟨⟨c2,hc2⟩,hf2⟩:=h2.at hlt hv'.out (m*5+2) (show m*5+2<n k*5 by omega)
     obtain ⟨⟨c3,hc3⟩,hf3⟩:=h3.at hlt hv'.out (m*5+3) (show m*5+3<n k*5 by omega)
     obtain ⟨⟨c4,hc4⟩,hf4⟩:=h4.at hlt hv'.out (m*5+4) (show m*5+4<n k*5 by omega)
     obtain ⟨Z', hZ', hZo,hZk'⟩:=h0.putKD hlt hv'.out hml k _ HZk.out
     have HZ' : Hid _:=hZ'
     have HZo:Hid _:=hZo
     have HZk' : Hid _:=hZk'
     have hgb:Hid (¬ Q g):=h0.nq k hlt g (by rw [hv'.out];rfl)
     have hBlt:=h0.lt
     clear h0 hZ' hZo hZk' h1 h2 h3 h4
     as_aux_lemma =>
      go_wp2_with fail
      case roundEnd =>
      refine ⟨⟨m+1,Z', by omega,by go_num,HZ', ?_,?_,?_⟩,?_⟩
      ·intro j hj;rw [HZo.out j (by omega)];exact HZM.out j hj
      ·show _=_;rw [HZk'.out,List.drop_drop];congr 2;omega
      ·exact ((((HZB.out.setCell hgb.out _).setCell hgb.out _).setCell hgb.out _).setCell hgb.out _).setCell hgb.out _
      ·simp [intOf];omega
    ·obtain ⟨ra,cap,hv⟩:∃ra cap,V k = .slice ra (n k) cap:=by
      rcases (HZ.out.own k hlt).2 with ⟨h,h0⟩|⟨g,cap,cur,hv,_⟩
      ·exact ⟨none,0,by rw [h,h0]⟩
      ·exact ⟨_,cap,hv⟩
     rw [hv] at hc
     have hmn:m=n k:=by omega
     have hBlt:=HZ.out.lt
     go_wp2_with fail
     go_roundw
     case rel =>
      refine ⟨k+1,Z,by omega,by go_num,HZ,?_,HZB⟩
      intro j hj
      by_cases e:j=k
      ·subst e
       have hl:(Y j).length=n j*5:=(HY.out.own j hlt).1
       rw [HZk.out,hmn,List.drop_of_length_le (by omega),List.append_nil]
      ·exact HZM.out j (by omega)
     case measure=>simp [intOf];omega
  ·have HL0:Hid (Longs KD Q N B V n 0 (.slice none 0 0) V wr):=⟨HY.out.congr (fun j hj=>HM.out j (by omega)),fun j hj=>absurd hj (Nat.not_lt_zero _),fun j _ hj=>absurd hj (Nat.not_lt_zero _),World.ownsRow_nil _ _ _ _,by simp [Value.ownBlock],fun g hg=>by cases hg⟩
   clear HY HM
   go_wp2
   go_loopw [5,6] (fun v i wr=>∃(k:Nat) (L:Nat→Value),k≤N∧i = .int .i64 k∧Hid (Longs KD Q N B V n k v L wr)∧Hid (FrQ Q w wr)) (fun _ i _=>N-(intOf i).toNat)
   case atStart=>exact ⟨0,V,Nat.zero_le _,rfl,HL0,HB⟩
   case round =>
    obtain ⟨k,L,hk,rfl,HL,HLB⟩:=hrel
    by_cases hlt2:k<N
    ·have i1:(k:Int)<(N:Int):=by omega
     have hc:=HL.out.held.cell k hlt2
     have hBlt:=HL.out.held.lt
     have hnk:n k≤1000000:=Hn.out k hlt2
     go_wp2
     go_loopw [7,8] (fun x i wr=>∃q:Nat,q≤16∧i = .int .i64 q∧Hid (Grow KD Q N B V n k u5 L q x wr)∧Hid (FrQ Q w wr)) (fun _ i _=>16-(intOf i).toNat)
     case atStart=>exact ⟨0,Nat.zero_le _,rfl,Grow.start HL.out hlt2,HLB⟩
     case round =>
      obtain ⟨q,hq,rfl,HG,HGB⟩:=hrel
      have hQr:Hid (∀(o:Obj) g,Q g→g<(wr.alloc o).heap.size):=fun o g hg=>by rw [World.size_alloc];have:=HQ.out g hg;have:=HGB.out.1.size;omega
      by_cases hlq:q<16
      ·have i3:(q:Int)<16:=by omega
       go_wp2_with (at_builtin;refine wpList_append_told _ rfl _ _ 30 rfl 0 32 i0 (.agg #[.int .u8 0, .int .i64 0, .string ⟨#[]⟩, .slice none 0 0, .bool false]) 5 64 Tryz.underlying30 hi hz0 hz1 hz2 rfl (by decide) u7 (n k+q) (marks KD k (n k)++marks KD (-1-(k:Int)) q) rfl (HG.out.own.alloc _) _ 1 1 (KD.mark (-1-(k:Int)) q) rfl rfl (cell_five_new _ _ _ _ _ _ _) (mkKD_one _ _) (by unfold maxLen;omega) (by omega) (Nat.zero_le _) (by decide) ?_;intro v1 w1 hown1 hgrow1 hold1 hw1)
       have hG1:=(HG.out.alloc _).step hlt2 hown1 hgrow1 hold1 hw1 (hQr.out _)
       have hB1:FrQ Q w w1:=(HGB.out.alloc _).grown hgrow1 HG.out.nq
       go_roundw
       case rel=>exact ⟨q+1,by omega,by go_num,hG1,hB1⟩
       case measure=>simp [intOf];omega
      ·obtain rfl:q=16:=by omega
       obtain ⟨g7,c7,rfl⟩:∃g7 c7,u7 = .slice (some ⟨g7,0,none⟩) (n k+16) c7:=by
        rcases HG.out.own.2 with ⟨_,h0⟩|⟨g,cap,cur,hv,_⟩
        ·omega
        ·exact ⟨g,cap,hv⟩
       go_wp2_with (at_builtin;refine wpList_append_told _ rfl _ _ 55 rfl 0 30 i3 (.slice none 0 0) 1 24 Tryz.underlying55 hi3 hy0 hy1 hy2 rfl (by decide) u5 k ((List.range k).map L) rfl (HG.out.longs.row.alloc _) _ 1 1 [.slice (some ⟨g7,0,none⟩) (n k+16) c7] rfl rfl (cellQ_one _ _ _) (own_slice_one HG.out.own) (by unfold maxLen;omega) (by omega) (Nat.zero_le _) (by decide) ?_;intro v1 w1 hown1 hgrow1 hold1 hw1)
       have hG1:=(HG.out.alloc _).put hlt2 hown1 hgrow1 hw1 (hQr.out _)
       have hB1:FrQ Q w w1:=(HGB.out.alloc _).grown hgrow1 HG.out.longs.nq
       go_roundw
       case rel=>exact ⟨k+1,_,by omega,by go_num,hG1,hB1⟩
       case measure=>simp [intOf];omega
    ·obtain rfl:k=N:=by omega
     clear hlt2
     go_wp2
     go_loopw [9] (fun i wr=>∃c:Nat,c≤k∧i = .int .i64 c∧Hid (Longs KD Q k B V n k u5 L wr)∧Hid (FrQ Q w wr)) (fun i _=>k-(intOf i).toNat)
     case atStart=>exact ⟨0,Nat.zero_le _,rfl,HL,HLB⟩
     case round =>
      obtain ⟨c,hcN,rfl,HC,HCB⟩:=hrel
      by_cases hlc:c<k
      ·have i1:(c:Int)<(k:Int):=by omega
       have hnc:n c≤1000000:=Hn.out c hlc
       obtain ⟨h5,c5,gl,cl,hv5,_,hcV,_,_,_,ra,cap,hVc⟩:=HC.out.reads hlc
       subst hv5
       rw [hVc] at hcV
       have hBlt:=HC.out.held.lt
       go_wp2
       go_loopw [11] (fun i wr=>∃m:Nat,m≤n c∧i = .int .i64 m∧Hid (Longs KD Q k B V n k (.slice (some ⟨h5,0,none⟩) k c5) L wr)∧Hid (FrQ Q w wr)) (fun i _=>n c-(intOf i).toNat)
       case atStart=>exact ⟨0,Nat.zero_le _,rfl,HC,HCB⟩
       case round =>
        obtain ⟨m,hm,rfl,HM,HMB⟩:=hrel
        by_cases hlm:m<n c
        ·have i2:(m:Int)<(n c:Int):=by omega
         obtain ⟨h5', c5', gl', cl', hv5', hcl,hcV', f1,_,f3,_⟩:=HM.out.reads hlc
         cases hv5'
         obtain ⟨g,cap', hVc', f3'⟩:=f3 m hlm
         have f1' := f1 m hlm
         have a0:wr.cell? ⟨g,m*5,none⟩=some (.int .u8 0):=f3' 0 (by decide)
         have a1:wr.cell? ⟨g,m*5+1,none⟩=some (.int .i64 ((c:Int)*1000+(m:Int))):=f3' 1 (by decide)
         have b0:wr.cell? ⟨gl', m*5,none⟩=some (.int .u8 0):=f1' 0 (by decide)
         have b1:wr.cell? ⟨gl', m*5+1,none⟩=some (.int .i64 ((c:Int)*1000+(m:Int))):=f1' 1 (by decide)
         rw [hVc'] at hcV'
         clear f1 f3 hcV hVc f1' f3'
         have i4:(m:Int)<(n c:Int)+16:=by omega
         have hq:∀wx:World,(Instr.field 32 (.agg #[.int .u8 0, .int .i64 ((c:Int)*1000+(m:Int)), .string ⟨#[]⟩, .slice none 0 0, .bool false]) 1).run Tryz.prog wx = .ok (.int .i64 ((c:Int)*1000+(m:Int))) wx:=fun wx=>field_n _ _ _ _ _ wx
         have z:((c:Int)*1000+(m:Int) == (c:Int)*1000+(m:Int))=true:=by simp
         have hBl2:=HM.out.held.lt
         as_aux_lemma =>
          go_wp2_with fail
          case roundEnd=>exact ⟨⟨m+1,by omega,by go_num,HM,HMB⟩,by simp [intOf];omega⟩
        ·go_wp2
         go_loopw [12] (fun i wr=>∃q:Nat,q≤16∧i = .int .i64 q∧Hid (Longs KD Q k B V n k (.slice (some ⟨h5,0,none⟩) k c5) L wr)∧Hid (FrQ Q w wr)) (fun i _=>16-(intOf i).toNat)
         case atStart=>exact ⟨0,Nat.zero_le _,rfl,HM,HMB⟩
         case round =>
          obtain ⟨q,hq16,rfl,HQ2,HQB⟩:=hrel
          by_cases hlq:q<16
          ·have i3:(q:Int)<16:=by omega
           obtain ⟨h5', c5', gl', cl', hv5', hcl,_,_,f2,_,_⟩:=HQ2.out.reads hlc
           cases hv5'
           have f2' := f2 q hlq
           have b0:wr.cell? ⟨gl', (n c+q)*5,none⟩=some (.int .u8 0):=f2' 0 (by decide)
           have b1:wr.cell? ⟨gl', (n c+q)*5+1,none⟩=some (.int .i64 ((-1-(c:Int))*1000+(q:Int))):=f2' 1 (by decide)
           clear f2 hcV hVc f2'
           have i4:(n c:Int)+(q:Int)<(n c:Int)+16:=by omega
           have hq:∀wx:World,(Instr.field 32 (.agg #[.int .u8 0, .int .i64 ((-1-(c:Int))*1000+(q:Int)), .string ⟨#[]⟩, .slice none 0 0, .bool false]) 1).run Tryz.prog wx = .ok (.int .i64 ((-1-(c:Int))*1000+(q:Int))) wx:=fun wx=>field_n _ _ _ _ _ wx
           have z:((-1-(c:Int))*1000+(q:Int) == (-1-(c:Int))*1000+(q:Int))=true:=by simp
           as_aux_lemma =>
            go_wp2_with fail
            case roundEnd=>exact ⟨⟨q+1,by omega,by go_num,HQ2,HQB⟩,by simp [intOf];omega⟩
          ·go_wp2
           go_roundw
           case rel=>exact ⟨c+1,by omega,by go_num,HQ2,HQB⟩
           case measure=>simp [intOf];omega
      ·go_wp2
       go_ret
       exact ⟨rfl,HCB.out⟩
theorem ownBytes_nil (w:World):Calls Tryz.prog 57 #[.slice none 0 0] w fun e w' => e = .returned (.bool true)∧Below w.heap.size w w' := by
 go_enter Tryz.func57,Tryz.ntmps57
 go_wp2
 repeat (go_rounds 1)
 go_ret
 exact ⟨rfl,by first|exact Below.refl _ _|exact (Below.refl _ _).alloc (Nat.le_refl _) _⟩
theorem ownTexts_nil (w:World):Calls Tryz.prog 58 #[.slice none 0 0] w fun e w' => e = .returned (.bool true)∧Below w.heap.size w w' := by
 go_enter Tryz.func58,Tryz.ntmps58
 go_wp2
 repeat (go_rounds 1)
 go_ret
 exact ⟨rfl,by first|exact Below.refl _ _|exact (Below.refl _ _).alloc (Nat.le_refl _) _⟩
theorem ownData_nil (w:World):Calls Tryz.prog 70 #[.slice none 0 0] w fun e w' => e = .returned (.bool true)∧Below w.heap.size w w' := by
 go_enter Tryz.func70,Tryz.ntmps70
 go_wp2
 repeat (go_rounds 1)
 go_ret
 exact ⟨rfl,by first|exact Below.refl _ _|exact (Below.refl _ _).alloc (Nat.le_refl _) _⟩
theorem ownInts_nil (w:World):Calls Tryz.prog 59 #[.slice none 0 0] w fun e w' => e = .returned (.bool true)∧Below w.heap.size w w' := by
 go_enter Tryz.func59,Tryz.ntmps59
 go_wp2
 repeat (go_rounds 1)
 go_ret
 exact ⟨rfl,by first|exact Below.refl _ _|exact (Below.refl _ _).alloc (Nat.le_refl _) _⟩
theorem ownLongs_nil (w:World):Calls Tryz.prog 60 #[.slice none 0 0] w fun e w' => e = .returned (.bool true)∧Below w.heap.size w w' := by
 go_enter Tryz.func60,Tryz.ntmps60
 go_wp2
 repeat (go_rounds 1)
 go_ret
 exact ⟨rfl,by first|exact Below.refl _ _|exact (Below.refl _ _).alloc (Nat.le_refl _) _⟩
theorem ownNumbers_nil (w:World):Calls Tryz.prog 61 #[.slice none 0 0] w fun e w' => e = .returned (.bool true)∧Below w.heap.size w w' := by
 go_enter Tryz.func61,Tryz.ntmps61
 go_wp2
 repeat (go_rounds 1)
 go_ret
 exact ⟨rfl,by first|exact Below.refl _ _|exact (Below.refl _ _).alloc (Nat.le_refl _) _⟩
theorem ownWords_nil (w:World):Calls Tryz.prog 62 #[.slice none 0 0] w fun e w' => e = .returned (.bool true)∧Below w.heap.size w w' := by
 go_enter Tryz.func62,Tryz.ntmps62
 go_wp2
 repeat (go_rounds 1)
 go_ret
 exact ⟨rfl,by first|exact Below.refl _ _|exact (Below.refl _ _).alloc (Nat.le_refl _) _⟩
theorem ownCells_nil (w:World):Calls Tryz.prog 63 #[.slice none 0 0] w fun e w' => e = .returned (.bool true)∧Below w.heap.size w w' := by
 go_enter Tryz.func63,Tryz.ntmps63
 go_wp2
 repeat (go_rounds 1)
 go_ret
 exact ⟨rfl,by first|exact Below.refl _ _|exact (Below.refl _ _).alloc (Nat.le_refl _) _⟩
theorem ownInstrs_nil (w:World):Calls Tryz.prog 64 #[.slice none 0 0] w fun e w' => e = .returned (.bool true)∧Below w.heap.size w w' := by
 go_enter Tryz.func64,Tryz.ntmps64
 go_wp2
 repeat (go_rounds 1)
 go_ret
 exact ⟨rfl,by first|exact Below.refl _ _|exact (Below.refl _ _).alloc (Nat.le_refl _) _⟩
theorem ownTokens_nil (w:World):Calls Tryz.prog 65 #[.slice none 0 0] w fun e w' => e = .returned (.bool true)∧Below w.heap.size w w' := by
 go_enter Tryz.func65,Tryz.ntmps65
 go_wp2
 repeat (go_rounds 1)
 go_ret
 exact ⟨rfl,by first|exact Below.refl _ _|exact (Below.refl _ _).alloc (Nat.le_refl _) _⟩
theorem ownWaiters_nil (w:World):Calls Tryz.prog 66 #[.slice none 0 0] w fun e w' => e = .returned (.bool true)∧Below w.heap.size w w' := by
 go_enter Tryz.func66,Tryz.ntmps66
 go_wp2
 repeat (go_rounds 1)
 go_ret
 exact ⟨rfl,by first|exact Below.refl _ _|exact (Below.refl _ _).alloc (Nat.le_refl _) _⟩
theorem ownEndeds_nil (w:World):Calls Tryz.prog 67 #[.slice none 0 0] w fun e w' => e = .returned (.bool true)∧Below w.heap.size w w' := by
 go_enter Tryz.func67,Tryz.ntmps67
 go_wp2
 repeat (go_rounds 1)
 go_ret
 exact ⟨rfl,by first|exact Below.refl _ _|exact (Below.refl _ _).alloc (Nat.le_refl _) _⟩
theorem ownErrs_nil (w:World):Calls Tryz.prog 68 #[.slice none 0 0] w fun e w' => e = .returned (.bool true)∧Below w.heap.size w w' := by
 go_enter Tryz.func68,Tryz.ntmps68
 go_wp2
 repeat (go_rounds 1)
 go_ret
 exact ⟨rfl,by first|exact Below.refl _ _|exact (Below.refl _ _).alloc (Nat.le_refl _) _⟩
theorem ownBools_nil (w:World):Calls Tryz.prog 69 #[.slice none 0 0] w fun e w' => e = .returned (.bool true)∧Below w.heap.size w w' := by
 have hmk:∀w:World,(Instr.makeSlice 59 (.int .i64 0) (.int .i64 0)).run Tryz.prog w = .ok (.slice (some ⟨w.heap.size,0,none⟩) 0 0) (w.alloc (.cells #[] 180)):=fun w=>by kernel_rfl
 go_enter Tryz.func69,Tryz.ntmps69
 go_wp2
 repeat (go_rounds 1)
 go_ret
 exact ⟨rfl,by first|exact Below.refl _ _|exact (Below.refl _ _).alloc (Nat.le_refl _) _⟩
theorem ownForms_nil (w:World):Calls Tryz.prog 71 #[.slice none 0 0] w fun e w' => e = .returned (.bool true)∧Below w.heap.size w w' := by
 go_enter Tryz.func71,Tryz.ntmps71
 go_wp2
 repeat (go_rounds 1)
 go_ret
 exact ⟨rfl,by first|exact Below.refl _ _|exact (Below.refl _ _).alloc (Nat.le_refl _) _⟩
theorem ownProcs_nil (w:World):Calls Tryz.prog 72 #[.slice none 0 0] w fun e w' => e = .returned (.bool true)∧Below w.heap.size w w' := by
 go_enter Tryz.func72,Tryz.ntmps72
 go_wp2
 repeat (go_rounds 1)
 go_ret
 exact ⟨rfl,by first|exact Below.refl _ _|exact (Below.refl _ _).alloc (Nat.le_refl _) _⟩
theorem ownLanes_nil (w:World):Calls Tryz.prog 73 #[.slice none 0 0] w fun e w' => e = .returned (.bool true)∧Below w.heap.size w w' := by
 go_enter Tryz.func73,Tryz.ntmps73
 go_wp2
 repeat (go_rounds 1)
 go_ret
 exact ⟨rfl,by first|exact Below.refl _ _|exact (Below.refl _ _).alloc (Nat.le_refl _) _⟩
structure Sh (K:Knd) (W:World) (v:Value) (N:Nat) (V:Nat→Value) (n:Nat→Nat) (X:Nat→List Value):Prop where
 row:W.ownsRow 0 K.lt 1 v N ((List.range N).map V)
 own:∀j,j<N→W.ownsRow 0 K.e K.sz (V j) (n j) (X j)
 apart:∀j j', j<N→j' < N→j≠j' → ∀g,(V j).ownBlock=some g→(V j').ownBlock≠some g
 small:∀j,j<N→n j≤1000000
def ShF (v:Value) (N:Nat) (V:Nat→Value) (g:Nat):Prop:=v.ownBlock=some g∨∃j,j<N∧(V j).ownBlock=some g
theorem Sh.lt {K:Knd} {W:World} {v:Value} {N:Nat} {V:Nat→Value} {n:Nat→Nat} {X:Nat→List Value} (h:Sh K W v N V n X):∀g,ShF v N V g→g<W.heap.size:=fun g hg=>by
 rcases hg with hg|⟨j,hj,hg⟩
 ·exact (h.row.lt g hg).2
 ·exact ((h.own j hj).lt g hg).2
theorem Sh.kept {K:Knd} {W W' : World} {v:Value} {N:Nat} {V:Nat→Value} {n:Nat→Nat} {X:Nat→List Value} (h:Sh K W v N V n X) (hk:∀g,ShF v N V g→W'.heap[g]?=W.heap[g]?):Sh K W' v N V n X :=
 ⟨own_same h.row (fun g hg=>hk g (.inl hg)),fun j hj=>own_same (h.own j hj) (fun g hg=>hk g (.inr ⟨j,hj,hg⟩)),h.apart,h.small⟩
theorem sh_nil (K:Knd) (W:World) (V:Nat→Value) (n:Nat→Nat) (X:Nat→List Value):Sh K W (.slice none 0 0) 0 V n X :=
 ⟨World.ownsRow_nil _ _ _ _,fun _ hj=>absurd hj (Nat.not_lt_zero _),fun _ _ hj=>absurd hj (Nat.not_lt_zero _),fun _ hj=>absurd hj (Nat.not_lt_zero _)⟩
theorem Sh.held {K:Knd} {Q:Nat→Prop} {W:World} {B c N:Nat} {V:Nat→Value} {n:Nat→Nat} {X:Nat→List Value} (h:Sh K W (.slice (some ⟨B,0,none⟩) N c) N V n X) (hq:∀j,j<N→∀g,(V j).ownBlock=some g→¬ Q g):Held K Q N B V n W X:=by
 refine ⟨fun j hj=>?_,h.own,h.apart,fun j hj e=>?_,(h.row.lt B rfl).2,hq⟩
 ·have:=h.row.cellAt j (show j<N*1 by omega)
  rw [List.getElem?_map,List.getElem?_range hj] at this
  exact this
 ·exact own_types h.row (h.own j hj) K.ne B rfl e
theorem bslice_one (ra:Option Addr) (n c:Nat):∀u∈[Value.slice ra n c],u.oneCell' = true:=by
 intro u hu
 obtain rfl:u = .slice ra n c:=by simpa using hu
 rfl
theorem Sh.more {K:Knd} {W W' : World} {v v' : Value} {N:Nat} {V:Nat→Value} {n:Nat→Nat} {X:Nat→List Value} (h:Sh K W v N V n X) {l:Value} {m:Nat} {xs:List Value} (hl:W.ownsRow 0 K.e K.sz l m xs) (hm:m≤1000000) (hf:∀g,l.ownBlock=some g→¬ ShF v N V g)
  (hrow:W'.ownsRow 0 K.lt 1 v' (N+1) ((List.range N).map V++[l])) (hk:∀g,g<W.heap.size→v.ownBlock≠some g→(∃cs,W.heap[g]?=some (.cells cs K.e (0,0)))→W'.heap[g]?=W.heap[g]?) :
  Sh K W' v' (N+1) (fun j=>if j=N then l else V j) (fun j=>if j=N then m else n j) (fun j=>if j=N then xs else X j):=by
 have keep:∀{u:Value} {k:Nat} {ys:List Value},W.ownsRow 0 K.e K.sz u k ys→W'.ownsRow 0 K.e K.sz u k ys:=fun hu=>own_same hu (fun g hg=>hk g (hu.lt g hg).2 (fun e=>own_types h.row hu K.ne g e hg) (own_blk hu hg))
 refine ⟨?_,fun j hj=>?_,fun j j' hj hj' hne g hg=>?_,fun j hj=>?_⟩
 ·rw [List.range_succ,List.map_append]
  have e1:(List.range N).map (fun j=>if j=N then l else V j)=(List.range N).map V:=by
   apply List.map_congr_left
   intro j hj
   have:=List.mem_range.1 hj
   rw [if_neg (by omega)]
  rw [e1]
  simpa using hrow
 ·by_cases e:j=N
  ·subst e;simp only [if_true];exact keep hl
  ·simp only [if_neg e];exact keep (h.own j (by omega))
 ·by_cases e:j=N
  ·subst e
   simp only [if_true] at hg
   rw [if_neg (fun e=>hne e.symm)]
   exact fun hg' => hf g hg (.inr ⟨j', by omega,hg'⟩)
  ·simp only [if_neg e] at hg
   by_cases e' : j' = N
   ·subst e'
    simp only [if_true]
    exact fun hg' => hf g hg' (.inr ⟨j,by omega,hg⟩)
   ·simp only [if_neg e']
    exact h.apart j j' (by omega) (by omega) hne g hg
 ·by_cases e:j=N
  ·simp only [if_pos e];exact hm
  ·simp only [if_neg e];exact h.small j (by omega)
theorem shf_more {v v' l:Value} {N s:Nat} {V:Nat→Value} (hw:v'.ownBlock=v.ownBlock∨∃g,v'.ownBlock=some g∧s≤g):∀g,ShF v' (N+1) (fun j=>if j=N then l else V j) g→ShF v N V g∨l.ownBlock=some g∨s≤g:=fun g hg=>by
 rcases hg with hg|⟨j,hj,hg⟩
 ·rcases hw with e|⟨g', e,hs⟩
  ·exact .inl (.inl (by rw [←e];exact hg))
  ·rw [e] at hg
   have:=Option.some.inj hg
   exact .inr (.inr (by omega))
 ·have hg:(if j=N then l else V j).ownBlock=some g:=hg
  by_cases e:j=N
  ·rw [if_pos e] at hg;exact .inr (.inl hg)
  ·rw [if_neg e] at hg;exact .inl (.inr ⟨j,by omega,hg⟩)
def KK (k:Nat):Knd:=if k=1 then KS else KD
def Kin (k:Nat):Prop:=k=1∨k=12
theorem kk_ne {k k' : Nat} (h:Kin k) (h' : Kin k') (hne:k≠k'):(KK k).e≠(KK k').e∧(KK k).lt≠(KK k').lt:=by
 rcases h with rfl|rfl<;>rcases h' with rfl|rfl<;>first|exact absurd rfl hne|exact ⟨by decide,by decide⟩
theorem kk_lt {k k' : Nat} (h:Kin k) (h' : Kin k'):(KK k).e≠(KK k').lt:=by
 rcases h with rfl|rfl<;>rcases h' with rfl|rfl<;>decide
theorem kk_bk {k:Nat} (h:Kin k):(KK k).e≠61∧(KK k).lt≠61:=by
 rcases h with rfl|rfl<;>exact ⟨by decide,by decide⟩
def nilV:Value := .slice none 0 0
def BkH (W:World) (b:Nat) (c:Nat→Value):Prop:=W.heap[b]?=some (.cells #[nilV,c 1,nilV,nilV,nilV,nilV,nilV,nilV,nilV,nilV,nilV,nilV,c 12,nilV,nilV,nilV,nilV] 61 (0,0))
structure Bk (W:World) (b:Nat) (c:Nat→Value) (N:Nat→Nat) (V:Nat→Nat→Value) (U:Nat→Prop):Prop where
 h:BkH W b c
 four:∀k,U k→Kin k
 sh:∀k,U k→∃n X,Sh (KK k) W (c k) (N k) (V k) n X
def BkF (b:Nat) (c:Nat→Value) (N:Nat→Nat) (V:Nat→Nat→Value) (U:Nat→Prop) (g:Nat):Prop:=g=b∨∃k,U k∧ShF (c k) (N k) (V k) g
theorem Bk.lt {W:World} {b:Nat} {c:Nat→Value} {N:Nat→Nat} {V:Nat→Nat→Value} {U:Nat→Prop} (h:Bk W b c N V U):∀g,BkF b c N V U g→g<W.heap.size:=fun g hg=>by
 rcases hg with rfl|⟨k,hk,hg⟩
 ·exact heap_lt h.h
 ·obtain ⟨_,_,hs⟩:=h.sh k hk
  exact hs.lt g hg
theorem Bk.kept {W W' : World} {b:Nat} {c:Nat→Value} {N:Nat→Nat} {V:Nat→Nat→Value} {U:Nat→Prop} (h:Bk W b c N V U) (hk:∀g,BkF b c N V U g→W'.heap[g]?=W.heap[g]?):Bk W' b c N V U :=
 ⟨(hk b (.inl rfl)).trans h.h,h.four,fun k hu=>by
  obtain ⟨n,X,hs⟩:=h.sh k hu
  exact ⟨n,X,hs.kept (fun g hg=>hk g (.inr ⟨k,hu,hg⟩))⟩⟩
theorem Bk.below {W W' : World} {b:Nat} {c:Nat→Value} {N:Nat→Nat} {V:Nat→Nat→Value} {U:Nat→Prop} (h:Bk W b c N V U) (hb:Below W.heap.size W W'):Bk W' b c N V U:=h.kept (fun g hg=>hb.block g (h.lt g hg))
theorem Bk.less {W:World} {b:Nat} {c:Nat→Value} {N:Nat→Nat} {V:Nat→Nat→Value} {U U' : Nat→Prop} (h:Bk W b c N V U) (hu:∀k,U' k→U k):Bk W b c N V U' := ⟨h.h,fun k hk=>h.four k (hu k hk),fun k hk=>h.sh k (hu k hk)⟩
theorem Bk.apart {W:World} {b:Nat} {c:Nat→Value} {N:Nat→Nat} {V:Nat→Nat→Value} {U:Nat→Prop} (h:Bk W b c N V U) {k:Nat} (hk:U k):∀j,j<N k→∀g,(V k j).ownBlock=some g→¬ BkF b c N V (fun k' => U k' ∧ k' ≠ k) g:=fun j hj g hg hF=>by
 obtain ⟨n,X,hs⟩:=h.sh k hk
 rcases hF with rfl|⟨k', ⟨hk', hne⟩,hF⟩
 ·obtain ⟨cs,hc⟩:=own_blk (hs.own j hj) hg
  exact ty_ne hc h.h (kk_bk (h.four k hk)).1 rfl
 ·obtain ⟨n', X', hs'⟩:=h.sh k' hk'
  rcases hF with hF|⟨j', hj', hF⟩
  ·exact own_types (hs.own j hj) hs'.row (kk_lt (h.four k hk) (h.four k' hk')) g hg hF
  ·exact own_types (hs.own j hj) (hs'.own j' hj') (kk_ne (h.four k hk) (h.four k' hk') (fun e=>hne e.symm)).1 g hg hF
def Owns (K:Knd) (f:Nat):Prop:=∀(Q:Nat→Prop) (v:Value) (N:Nat) (V:Nat→Value) (n:Nat→Nat) (X:Nat→List Value) (w:World),N≤1000000→(∀g,Q g→g<w.heap.size)→Sh K w v N V n X→(∀j,j<N→∀g,(V j).ownBlock=some g→¬ Q g)→Calls Tryz.prog f #[v] w fun e w' => e = .returned (.bool true)∧FrQ Q w w'
theorem owns_texts:Owns KS 58:=fun Q v N V n X w hN hQ h hq=>by
 rcases h.row.2 with ⟨rfl,rfl⟩|⟨B,cap,cur,rfl,_⟩
 ·exact (ownTexts_nil w).mono fun e w' h=>⟨h.1,FrQ.of h.2 (fun g hg _=>hQ g hg)⟩
 ·exact ownTexts_any Q N B cap V n X w hN hQ h.small (h.held hq)
theorem owns_data:Owns KD 70:=fun Q v N V n X w hN hQ h hq=>by
 rcases h.row.2 with ⟨rfl,rfl⟩|⟨B,cap,cur,rfl,_⟩
 ·exact (ownData_nil w).mono fun e w' h=>⟨h.1,FrQ.of h.2 (fun g hg _=>hQ g hg)⟩
 ·exact ownData_any Q N B cap V n X w hN hQ h.small (h.held hq)
theorem own_step {Q:Nat→Prop} {w W:World} {b:Nat} {c:Nat→Value} {N:Nat→Nat} {V:Nat→Nat→Value} {U:Nat→Prop} {k f:Nat} (hO:Owns (KK k) f) (h:Bk W b c N V U) (hk:U k) (hN:N k≤1000000) (hF:FrQ Q w W) (hQ:∀g,Q g→g<w.heap.size) (hq:∀j,j<N k→∀g,(V k j).ownBlock=some g→¬ Q g) :
  Calls Tryz.prog f #[c k] W fun e w' => e = .returned (.bool true)∧FrQ Q w w' ∧ Bk w' b c N V (fun k' => U k' ∧ k' ≠ k):=by
 obtain ⟨n,X,hs⟩:=h.sh k hk
 refine (hO (fun g=>Q g∨BkF b c N V (fun k' => U k' ∧ k' ≠ k) g) (c k) (N k) (V k) n X W hN (fun g hg=>?_) hs (fun j hj g hg hh=>?_)).mono ?_
 ·rcases hg with hg|hg
  ·exact Nat.lt_of_lt_of_le (hQ g hg) hF.1.size
  ·exact (h.less (U' := fun k' => U k' ∧ k' ≠ k) (fun _ h=>h.1)).lt g hg
 ·rcases hh with hh|hh
  ·exact hq j hj g hg hh
  ·exact h.apart hk j hj g hg hh
 ·rintro e w' ⟨he,hfr⟩
  have hl:=h.less (U' := fun k' => U k' ∧ k' ≠ k) (fun _ h=>h.1)
  exact ⟨he,hF.trans ⟨hfr.1,fun g hg hlt=>hfr.2 g (.inl hg) hlt⟩,hl.kept (fun g hg=>hfr.2 g (.inr hg) (hl.lt g hg))⟩
theorem nil_step {Q:Nat→Prop} {w W:World} {b:Nat} {c:Nat→Value} {N:Nat→Nat} {V:Nat→Nat→Value} {U:Nat→Prop} {f:Nat} (hO:Calls Tryz.prog f #[.slice none 0 0] W fun e w' => e = .returned (.bool true)∧Below W.heap.size W w') (h:Bk W b c N V U) (hF:FrQ Q w W) (_:∀g,Q g→g<w.heap.size) :
  Calls Tryz.prog f #[.slice none 0 0] W fun e w' => e = .returned (.bool true)∧FrQ Q w w' ∧ Bk w' b c N V U:=by
 refine hO.mono ?_
 rintro e w' ⟨he,hb⟩
 exact ⟨he,hF.trans (FrQ.of hb (fun g _ hg=>hg)),h.below hb⟩
theorem Bk.sl {W:World} {b:Nat} {c:Nat→Value} {N:Nat→Nat} {V:Nat→Nat→Value} {U:Nat→Prop} (h:Bk W b c N V U) {k:Nat} (hk:U k):∃ra q,c k = .slice ra (N k) q:=by
 obtain ⟨_,_,hs⟩:=h.sh k hk
 exact own_sl hs.row
theorem bookOwn_any (Q:Nat→Prop) (b:Nat) (c:Nat→Value) (N:Nat→Nat) (V:Nat→Nat→Value) (w:World) (hN:∀k,N k≤1000000) (hQ:∀g,Q g→g<w.heap.size) (h:Bk w b c N V Kin) (hq:∀k,Kin k→∀j,j<N k→∀g,(V k j).ownBlock=some g→¬ Q g) :
  Calls Tryz.prog 22 #[.pointer (some ⟨b,0,none⟩)] w fun e w' => e = .returned (.bool true)∧FrQ Q w w' := by
 have HQ:Hid (∀g,Q g→g<w.heap.size):=hQ
 have Hq:Hid (∀k,Kin k→∀j,j<N k→∀g,(V k j).ownBlock=some g→¬ Q g):=hq
 have HN:Hid (∀k,N k≤1000000):=hN
 obtain ⟨r1,q1,hv1⟩:=h.sl (k:=1) (by unfold Kin;omega)
 have HV1:Hid (c 1 = .slice r1 (N 1) q1):=hv1
 obtain ⟨r12,q12,hv12⟩:=h.sl (k:=12) (by unfold Kin;omega)
 have HV12:Hid (c 12 = .slice r12 (N 12) q12):=hv12
 have HS0:Hid (FrQ Q w w∧Bk w b c N V Kin):=⟨FrQ.refl _ _,h⟩
 clear h hQ hq hN hv1 hv12
 go_enter Tryz.func22,Tryz.ntmps22
 have c0:w.cell? ⟨b,0,none⟩=some (.slice none 0 0):=by
  have:=heap_cell (j:=0) HS0.out.2.h rfl
  exact this
 have lb0:=heap_lt HS0.out.2.h
 have HO0:Hid (Calls Tryz.prog 57 #[.slice none 0 0] w fun e w' => e = .returned (.bool true)∧FrQ Q w w' ∧ Bk w' b c N V Kin):=nil_step (ownBytes_nil _) HS0.out.2 HS0.out.1 HQ.out
 go_wp2_with fail
 refine Calls.mono HO0.out ?_
 rintro e w1 ⟨rfl,hx0⟩
 have HS1:Hid (FrQ Q w w1∧Bk w1 b c N V Kin):=hx0
 clear c0 lb0 HO0 HS0 hx0
 have c1:w1.cell? ⟨b,1,none⟩=some (.slice r1 (N 1) q1):=by
  have:=heap_cell (j:=1) HS1.out.2.h rfl
  rwa [HV1.out] at this
 have lb1:=heap_lt HS1.out.2.h
 have HO1:Hid (Calls Tryz.prog 58 #[.slice r1 (N 1) q1] w1 fun e w' => e = .returned (.bool true)∧FrQ Q w w' ∧ Bk w' b c N V (fun k' => Kin k' ∧ k' ≠ 1)):=by
  have:=own_step (k:=1) (show Owns (KK 1) _ from owns_texts) HS1.out.2 (by simp [Kin]) (HN.out _) HS1.out.1 HQ.out (Hq.out 1 (by simp [Kin]))
  rwa [HV1.out] at this
 go_wp2_with fail
 refine Calls.mono HO1.out ?_
 rintro e w2 ⟨rfl,hx1⟩
 have HS2:Hid (FrQ Q w w2∧Bk w2 b c N V (fun k' => Kin k' ∧ k' ≠ 1)):=hx1
 clear c1 lb1 HO1 HS1 hx1
 have c2:w2.cell? ⟨b,2,none⟩=some (.slice none 0 0):=by
  have:=heap_cell (j:=2) HS2.out.2.h rfl
  exact this
 have lb2:=heap_lt HS2.out.2.h
 have HO2:Hid (Calls Tryz.prog 59 #[.slice none 0 0] w2 fun e w' => e = .returned (.bool true)∧FrQ Q w w' ∧ Bk w' b c N V (fun k' => Kin k' ∧ k' ≠ 1)):=nil_step (ownInts_nil _) HS2.out.2 HS2.out.1 HQ.out
 go_wp2_with fail
 refine Calls.mono HO2.out ?_
 rintro e w3 ⟨rfl,hx2⟩
 have HS3:Hid (FrQ Q w w3∧Bk w3 b c N V (fun k' => Kin k' ∧ k' ≠ 1)):=hx2
 clear c2 lb2 HO2 HS2 hx2
 have c3:w3.cell? ⟨b,3,none⟩=some (.slice none 0 0):=by
  have:=heap_cell (j:=3) HS3.out.2.h rfl
  exact this
 have lb3:=heap_lt HS3.out.2.h
 have HO3:Hid (Calls Tryz.prog 60 #[.slice none 0 0] w3 fun e w' => e = .returned (.bool true)∧FrQ Q w w' ∧ Bk w' b c N V (fun k' => Kin k' ∧ k' ≠ 1)):=nil_step (ownLongs_nil _) HS3.out.2 HS3.out.1 HQ.out
 go_wp2_with fail
 refine Calls.mono HO3.out ?_
 rintro e w4 ⟨rfl,hx3⟩
 have HS4:Hid (FrQ Q w w4∧Bk w4 b c N V (fun k' => Kin k' ∧ k' ≠ 1)):=hx3
 clear c3 lb3 HO3 HS3 hx3
 have c4:w4.cell? ⟨b,4,none⟩=some (.slice none 0 0):=by
  have:=heap_cell (j:=4) HS4.out.2.h rfl
  exact this
 have lb4:=heap_lt HS4.out.2.h
 have HO4:Hid (Calls Tryz.prog 61 #[.slice none 0 0] w4 fun e w' => e = .returned (.bool true)∧FrQ Q w w' ∧ Bk w' b c N V (fun k' => Kin k' ∧ k' ≠ 1)):=nil_step (ownNumbers_nil _) HS4.out.2 HS4.out.1 HQ.out
 go_wp2_with fail
 refine Calls.mono HO4.out ?_
 rintro e w5 ⟨rfl,hx4⟩
 have HS5:Hid (FrQ Q w w5∧Bk w5 b c N V (fun k' => Kin k' ∧ k' ≠ 1)):=hx4
 clear c4 lb4 HO4 HS4 hx4
 have c5:w5.cell? ⟨b,5,none⟩=some (.slice none 0 0):=by
  have:=heap_cell (j:=5) HS5.out.2.h rfl
  exact this
 have lb5:=heap_lt HS5.out.2.h
 have HO5:Hid (Calls Tryz.prog 62 #[.slice none 0 0] w5 fun e w' => e = .returned (.bool true)∧FrQ Q w w' ∧ Bk w' b c N V (fun k' => Kin k' ∧ k' ≠ 1)):=nil_step (ownWords_nil _) HS5.out.2 HS5.out.1 HQ.out
 go_wp2_with fail
 refine Calls.mono HO5.out ?_
 rintro e w6 ⟨rfl,hx5⟩
 have HS6:Hid (FrQ Q w w6∧Bk w6 b c N V (fun k' => Kin k' ∧ k' ≠ 1)):=hx5
 clear c5 lb5 HO5 HS5 hx5
 have c6:w6.cell? ⟨b,6,none⟩=some (.slice none 0 0):=by
  have:=heap_cell (j:=6) HS6.out.2.h rfl
  exact this
 have lb6:=heap_lt HS6.out.2.h
 have HO6:Hid (Calls Tryz.prog 63 #[.slice none 0 0] w6 fun e w' => e = .returned (.bool true)∧FrQ Q w w' ∧ Bk w' b c N V (fun k' => Kin k' ∧ k' ≠ 1)):=nil_step (ownCells_nil _) HS6.out.2 HS6.out.1 HQ.out
 go_wp2_with fail
 refine Calls.mono HO6.out ?_
 rintro e w7 ⟨rfl,hx6⟩
 have HS7:Hid (FrQ Q w w7∧Bk w7 b c N V (fun k' => Kin k' ∧ k' ≠ 1)):=hx6
 clear c6 lb6 HO6 HS6 hx6
 have c7:w7.cell? ⟨b,7,none⟩=some (.slice none 0 0):=by
  have:=heap_cell (j:=7) HS7.out.2.h rfl
  exact this
 have lb7:=heap_lt HS7.out.2.h
 have HO7:Hid (Calls Tryz.prog 64 #[.slice none 0 0] w7 fun e w' => e = .returned (.bool true)∧FrQ Q w w' ∧ Bk w' b c N V (fun k' => Kin k' ∧ k' ≠ 1)):=nil_step (ownInstrs_nil _) HS7.out.2 HS7.out.1 HQ.out
 go_wp2_with fail
 refine Calls.mono HO7.out ?_
 rintro e w8 ⟨rfl,hx7⟩
 have HS8:Hid (FrQ Q w w8∧Bk w8 b c N V (fun k' => Kin k' ∧ k' ≠ 1)):=hx7
 clear c7 lb7 HO7 HS7 hx7
 have c8:w8.cell? ⟨b,8,none⟩=some (.slice none 0 0):=by
  have:=heap_cell (j:=8) HS8.out.2.h rfl
  exact this
 have lb8:=heap_lt HS8.out.2.h
 have HO8:Hid (Calls Tryz.prog 65 #[.slice none 0 0] w8 fun e w' => e = .returned (.bool true)∧FrQ Q w w' ∧ Bk w' b c N V (fun k' => Kin k' ∧ k' ≠ 1)):=nil_step (ownTokens_nil _) HS8.out.2 HS8.out.1 HQ.out
 go_wp2_with fail
 refine Calls.mono HO8.out ?_
 rintro e w9 ⟨rfl,hx8⟩
 have HS9:Hid (FrQ Q w w9∧Bk w9 b c N V (fun k' => Kin k' ∧ k' ≠ 1)):=hx8
 clear c8 lb8 HO8 HS8 hx8
 have c9:w9.cell? ⟨b,9,none⟩=some (.slice none 0 0):=by
  have:=heap_cell (j:=9) HS9.out.2.h rfl
  exact this
 have lb9:=heap_lt HS9.out.2.h
 have HO9:Hid (Calls Tryz.prog 66 #[.slice none 0 0] w9 fun e w' => e = .returned (.bool true)∧FrQ Q w w' ∧ Bk w' b c N V (fun k' => Kin k' ∧ k' ≠ 1)):=nil_step (ownWaiters_nil _) HS9.out.2 HS9.out.1 HQ.out
 go_wp2_with fail
 refine Calls.mono HO9.out ?_
 rintro e w10 ⟨rfl,hx9⟩
 have HS10:Hid (FrQ Q w w10∧Bk w10 b c N V (fun k' => Kin k' ∧ k' ≠ 1)):=hx9
 clear c9 lb9 HO9 HS9 hx9
 have c10:w10.cell? ⟨b,10,none⟩=some (.slice none 0 0):=by
  have:=heap_cell (j:=10) HS10.out.2.h rfl
  exact this
 have lb10:=heap_lt HS10.out.2.h
 have HO10:Hid (Calls Tryz.prog 67 #[.slice none 0 0] w10 fun e w' => e = .returned (.bool true)∧FrQ Q w w' ∧ Bk w' b c N V (fun k' => Kin k' ∧ k' ≠ 1)):=nil_step (ownEndeds_nil _) HS10.out.2 HS10.out.1 HQ.out
 go_wp2_with fail
 refine Calls.mono HO10.out ?_
 rintro e w11 ⟨rfl,hx10⟩
 have HS11:Hid (FrQ Q w w11∧Bk w11 b c N V (fun k' => Kin k' ∧ k' ≠ 1)):=hx10
 clear c10 lb10 HO10 HS10 hx10
 have c11:w11.cell? ⟨b,11,none⟩=some (.slice none 0 0):=by
  have:=heap_cell (j:=11) HS11.out.2.h rfl
  exact this
 have lb11:=heap_lt HS11.out.2.h
 have HO11:Hid (Calls Tryz.prog 68 #[.slice none 0 0] w11 fun e w' => e = .returned (.bool true)∧FrQ Q w w' ∧ Bk w' b c N V (fun k' => Kin k' ∧ k' ≠ 1)):=nil_step (ownErrs_nil _) HS11.out.2 HS11.out.1 HQ.out
 go_wp2_with fail
 refine Calls.mono HO11.out ?_
 rintro e w12 ⟨rfl,hx11⟩
 have HS12:Hid (FrQ Q w w12∧Bk w12 b c N V (fun k' => Kin k' ∧ k' ≠ 1)):=hx11
 clear c11 lb11 HO11 HS11 hx11
 have c12:w12.cell? ⟨b,16,none⟩=some (.slice none 0 0):=by
  have:=heap_cell (j:=16) HS12.out.2.h rfl
  exact this
 have lb12:=heap_lt HS12.out.2.h
 have HO12:Hid (Calls Tryz.prog 69 #[.slice none 0 0] w12 fun e w' => e = .returned (.bool true)∧FrQ Q w w' ∧ Bk w' b c N V (fun k' => Kin k' ∧ k' ≠ 1)):=nil_step (ownBools_nil _) HS12.out.2 HS12.out.1 HQ.out
 go_wp2_with fail
 refine Calls.mono HO12.out ?_
 rintro e w13 ⟨rfl,hx12⟩
 have HS13:Hid (FrQ Q w w13∧Bk w13 b c N V (fun k' => Kin k' ∧ k' ≠ 1)):=hx12
 clear c12 lb12 HO12 HS12 hx12
 have c13:w13.cell? ⟨b,12,none⟩=some (.slice r12 (N 12) q12):=by
  have:=heap_cell (j:=12) HS13.out.2.h rfl
  rwa [HV12.out] at this
 have lb13:=heap_lt HS13.out.2.h
 have HO13:Hid (Calls Tryz.prog 70 #[.slice r12 (N 12) q12] w13 fun e w' => e = .returned (.bool true)∧FrQ Q w w' ∧ Bk w' b c N V (fun k' => (fun k' => Kin k' ∧ k' ≠ 1) k' ∧ k' ≠ 12)):=by
  have:=own_step (k:=12) (show Owns (KK 12) _ from owns_data) HS13.out.2 (by simp [Kin]) (HN.out _) HS13.out.1 HQ.out (Hq.out 12 (by simp [Kin]))
  rwa [HV12.out] at this
 go_wp2_with fail
 refine Calls.mono HO13.out ?_
 rintro e w14 ⟨rfl,hx13⟩
 have HS14:Hid (FrQ Q w w14∧Bk w14 b c N V (fun k' => (fun k' => Kin k' ∧ k' ≠ 1) k' ∧ k' ≠ 12)):=hx13
 clear c13 lb13 HO13 HS13 hx13
 have c14:w14.cell? ⟨b,13,none⟩=some (.slice none 0 0):=by
  have:=heap_cell (j:=13) HS14.out.2.h rfl
  exact this
 have lb14:=heap_lt HS14.out.2.h
 have HO14:Hid (Calls Tryz.prog 71 #[.slice none 0 0] w14 fun e w' => e = .returned (.bool true)∧FrQ Q w w' ∧ Bk w' b c N V (fun k' => (fun k' => Kin k' ∧ k' ≠ 1) k' ∧ k' ≠ 12)):=nil_step (ownForms_nil _) HS14.out.2 HS14.out.1 HQ.out
 go_wp2_with fail
 refine Calls.mono HO14.out ?_
 rintro e w15 ⟨rfl,hx14⟩
 have HS15:Hid (FrQ Q w w15∧Bk w15 b c N V (fun k' => (fun k' => Kin k' ∧ k' ≠ 1) k' ∧ k' ≠ 12)):=hx14
 clear c14 lb14 HO14 HS14 hx14
 have c15:w15.cell? ⟨b,14,none⟩=some (.slice none 0 0):=by
  have:=heap_cell (j:=14) HS15.out.2.h rfl
  exact this
 have lb15:=heap_lt HS15.out.2.h
 have HO15:Hid (Calls Tryz.prog 72 #[.slice none 0 0] w15 fun e w' => e = .returned (.bool true)∧FrQ Q w w' ∧ Bk w' b c N V (fun k' => (fun k' => Kin k' ∧ k' ≠ 1) k' ∧ k' ≠ 12)):=nil_step (ownProcs_nil _) HS15.out.2 HS15.out.1 HQ.out
 go_wp2_with fail
 refine Calls.mono HO15.out ?_
 rintro e w16 ⟨rfl,hx15⟩
 have HS16:Hid (FrQ Q w w16∧Bk w16 b c N V (fun k' => (fun k' => Kin k' ∧ k' ≠ 1) k' ∧ k' ≠ 12)):=hx15
 clear c15 lb15 HO15 HS15 hx15
 have c16:w16.cell? ⟨b,15,none⟩=some (.slice none 0 0):=by
  have:=heap_cell (j:=15) HS16.out.2.h rfl
  exact this
 have lb16:=heap_lt HS16.out.2.h
 have HO16:Hid (Calls Tryz.prog 73 #[.slice none 0 0] w16 fun e w' => e = .returned (.bool true)∧FrQ Q w w' ∧ Bk w' b c N V (fun k' => (fun k' => Kin k' ∧ k' ≠ 1) k' ∧ k' ≠ 12)):=nil_step (ownLanes_nil _) HS16.out.2 HS16.out.1 HQ.out
 go_wp2_with fail
 refine Calls.mono HO16.out ?_
 rintro e w17 ⟨rfl,hx16⟩
 have HS17:Hid (FrQ Q w w17∧Bk w17 b c N V (fun k' => (fun k' => Kin k' ∧ k' ≠ 1) k' ∧ k' ≠ 12)):=hx16
 clear c16 lb16 HO16 HS16 hx16
 go_wp2
 go_ret
 exact ⟨rfl,HS17.out.1⟩
def upd {α : Type} (f:Nat → α) (k:Nat) (x : α):Nat → α := fun j=>if j=k then x else f j
theorem upd_eq {α : Type} (f:Nat → α) (k:Nat) (x : α):upd f k x k=x:=if_pos rfl
theorem upd_ne {α : Type} (f:Nat → α) {k j:Nat} (x : α) (h:j≠k):upd f k x j=f j:=if_neg h
def Rw (t:TypeId):Prop:=t=61∨∃k,Kin k∧t=(KK k).lt
def KpB (w w' : World):Prop:=Below 0 w w' ∧ ∀(g:Nat) (cs:Array Value) (t:TypeId),w.heap[g]?=some (.cells cs t (0,0))→¬ Rw t→w'.heap[g]?=w.heap[g]?
theorem KpB.trans {w w' w'' : World} (h:KpB w w') (h' : KpB w' w''):KpB w w'' := ⟨h.1.trans h'.1,fun g cs t hg ht=>(h'.2 g cs t ((h.2 g cs t hg ht).trans hg) ht).trans (h.2 g cs t hg ht)⟩
theorem KpB.of {w w' : World} (h:Below w.heap.size w w'):KpB w w' := ⟨h.mono (Nat.zero_le _),fun g _ _ hg _=>h.block g (heap_lt hg)⟩
structure PutR (w w' : World) (b:Nat) (c:Nat→Value) (N:Nat→Nat) (V:Nat→Nat→Value) (k:Nat) (l v' : Value):Prop where
 bk:Bk w' b (upd c k v') (upd N k (N k+1)) (upd V k (fun j=>if j=N k then l else V k j)) Kin
 gr:∀g,BkF b (upd c k v') (upd N k (N k+1)) (upd V k (fun j=>if j=N k then l else V k j)) Kin g→BkF b c N V Kin g∨l.ownBlock=some g∨w.heap.size≤g
 kp:KpB w w'
 st:∀g,g<w.heap.size→¬ BkF b c N V Kin g→w'.heap[g]?=w.heap[g]?
theorem put_row {w w1:World} {b:Nat} {c:Nat→Value} {N:Nat→Nat} {V:Nat→Nat→Value} {k:Nat} {l v' : Value} {m:Nat} {xs:List Value} {ob:Obj} (h:Bk w b c N V Kin) (hk:Kin k) (hl:w.ownsRow 0 (KK k).e (KK k).sz l m xs) (hm:m≤1000000) (hf:∀g,l.ownBlock=some g→¬ BkF b c N V Kin g)
  (hrow:w1.ownsRow 0 (KK k).lt 1 v' (N k+1) ((List.range (N k)).map (V k)++[l])) (hgr:(w.alloc ob).grownBy w1 (c k).ownBlock) (hw:v'.ownBlock=(c k).ownBlock∨∃g,v'.ownBlock=some g∧w.heap.size≤g)
  (hset:BkH (w1.setCell ⟨b,k,none⟩ v') b (upd c k v')):PutR w (w1.setCell ⟨b,k,none⟩ v') b c N V k l v' := by
 obtain ⟨n,X,hs⟩:=h.sh k hk
 have lb:=heap_lt h.h
 have kk:∀g,g<w.heap.size→(c k).ownBlock≠some g→w1.heap[g]?=w.heap[g]?:=fun g hg hn=>(hgr.block g (by rw [World.size_alloc];omega) (fun e=>hn e.symm)).trans (Below.heap_alloc _ _ _ hg)
 have kb:∀g,g≠b→(w1.setCell ⟨b,k,none⟩ v').heap[g]?=w1.heap[g]?:=fun g hg=>Below.heap_setCell _ _ _ _ hg
 have hb1:w1.heap[b]?=w.heap[b]?:=kk b lb (fun e=>by
  obtain ⟨cs,hc⟩:=own_blk hs.row e
  exact ty_ne hc h.h (kk_bk hk).2 rfl)
 have hown1:∀{e s n:Nat} {v:Value} {ys:List Value},e≠61→w1.ownsRow 0 e s v n ys→(w1.setCell ⟨b,k,none⟩ v').ownsRow 0 e s v n ys:=fun he ho=>own_same ho (fun g hg=>kb g (by
  obtain ⟨cs,hc⟩:=own_blk ho hg
  exact ty_ne hc (hb1.trans h.h) he))
 refine ⟨⟨hset,fun _ h=>h,fun k' hk' => ?_⟩,fun g hg=>?_,⟨?_,fun g cs t hg ht=>?_⟩,fun g hg hn=>?_⟩
 ·by_cases e:k' = k
  ·subst e
   rw [upd_eq,upd_eq,upd_eq]
   exact ⟨_,_,hs.more hl hm (fun g hg hF=>hf g hg (.inr ⟨k', hk,hF⟩)) (hown1 (kk_bk hk).2 hrow) (fun g hg hne hty=>by
    obtain ⟨cs,hc⟩:=hty
    rw [kb g (ty_ne hc h.h (kk_bk hk).1),kk g hg hne])⟩
  ·rw [upd_ne _ _ e,upd_ne _ _ e,upd_ne _ _ e]
   obtain ⟨n', X', hs'⟩:=h.sh k' hk'
   refine ⟨n', X', hs'.kept (fun g hg=>?_)⟩
   have hgb:g≠b:=by
    rcases hg with hg|⟨j,hj,hg⟩
    ·obtain ⟨cs,hc⟩:=own_blk hs'.row hg
     exact ty_ne hc h.h (kk_bk hk').2
    ·obtain ⟨cs,hc⟩:=own_blk (hs'.own j hj) hg
     exact ty_ne hc h.h (kk_bk hk').1
   refine (kb g hgb).trans (kk g (hs'.lt g hg) (fun e' => ?_))
   rcases hg with hg|⟨j,hj,hg⟩
   ·exact own_types hs.row hs'.row (kk_ne hk hk' (fun e2=>e e2.symm)).2 g e' hg
   ·exact own_types (hs'.own j hj) hs.row (kk_lt hk' hk) g hg e'
 ·rcases hg with hg|⟨k', hk', hg⟩
  ·exact .inl (.inl hg)
  ·by_cases e:k' = k
   ·subst e
    rw [upd_eq,upd_eq,upd_eq] at hg
    rcases shf_more hw g hg with h' | h' | h'
    ·exact .inl (.inr ⟨k', hk,h'⟩)
    ·exact .inr (.inl h')
    ·exact .inr (.inr h')
   ·rw [upd_ne _ _ e,upd_ne _ _ e,upd_ne _ _ e] at hg
    exact .inl (.inr ⟨k', hk', hg⟩)
 ·exact (((Below.refl 0 w).alloc (Nat.zero_le _) _).grown hgr (Nat.zero_le _) (fun _ _=>Nat.zero_le _)).setCell (p:=⟨b,k,none⟩) (Nat.zero_le _) _
 ·rw [kb g (ty_ne hg h.h (fun e=>ht (.inl e))),kk g (heap_lt hg) (fun e=>by
   obtain ⟨c2,k2⟩:=own_blk hs.row e
   exact ty_ne hg k2 (fun e2=>ht (.inr ⟨k,hk,e2⟩)) rfl)]
 ·rw [kb g (fun e=>hn (.inl e)),kk g hg (fun e=>hn (.inr ⟨k,hk, .inl e⟩))]
theorem putTexts_any (b:Nat) (c:Nat→Value) (N:Nat→Nat) (V:Nat→Nat→Value) (ra:Option Addr) (m q:Nat) (xs:List Value) (w:World) (h:Bk w b c N V Kin) (hN:N 1≤1000000) (hl:w.ownsRow 0 (KK 1).e (KK 1).sz (.slice ra m q) m xs) (hm:m≤1000000) (hf:∀g,(Value.slice ra m q).ownBlock=some g→¬ BkF b c N V Kin g) :
  Calls Tryz.prog 33 #[.pointer (some ⟨b,0,none⟩), .slice ra m q] w fun e w' => (∃r,e = .returned r)∧∃v', PutR w w' b c N V 1 (.slice ra m q) v' := by
 obtain ⟨i3,hi3,hy0,hy1,hy2⟩:=info_parts infoLKS
 have HH:Hid (Bk w b c N V Kin):=h
 have HL:Hid (w.ownsRow 0 (KK 1).e (KK 1).sz (.slice ra m q) m xs):=hl
 have Hf:Hid (∀g,(Value.slice ra m q).ownBlock=some g→¬ BkF b c N V Kin g):=hf
 obtain ⟨n1,X1,h1⟩:=h.sh 1 (by simp [Kin])
 have HR:Hid (w.ownsRow 0 25 1 (c 1) (N 1) ((List.range (N 1)).map (V 1))):=h1.row
 obtain ⟨r0,q0,hv0⟩:=own_sl h1.row
 have cb:w.cell? ⟨b,1,none⟩=some (c 1):=heap_cell h.h rfl
 have lb:=heap_lt h.h
 have HV:Hid (c 1 = .slice r0 (N 1) q0):=hv0
 rw [hv0] at cb
 clear h hl hf h1 hv0
 generalize hn:N 1=nn at *
 have Hnn:Hid (N 1=nn):=hn
 clear hn
 go_enter Tryz.func33,Tryz.ntmps33
 go_wp2_with (at_builtin;refine stop_of ?_)
 unfold Hid
 rw [←HV.out]
 refine wpList_append_told _ rfl _ _ 44 rfl 0 25 i3 (.slice none 0 0) 1 24 Tryz.underlying44 hi3 hy0 hy1 hy2 rfl (by decide) (c 1) nn ((List.range nn).map (V 1)) rfl (HR.out.alloc _) _ 1 1 [.slice ra m q] rfl rfl (cellQ_one _ _ _) (bslice_one _ _ _) (by unfold maxLen;omega) (by omega) (Nat.zero_le _) (by decide) ?_
 intro v1 w1 hown1 hgrow1 hold1 hw1
 obtain ⟨ra1,q1,hv1⟩:=own_sl hown1
 subst hv1
 have hs1:w.heap.size≤w1.heap.size:=by have:=hgrow1.size;rw [World.size_alloc] at this;omega
 have hb1:w1.heap[b]?=w.heap[b]?:=(hgrow1.block b (by rw [World.size_alloc];omega) (fun e=>by
  obtain ⟨cs,hc⟩:=own_blk HR.out e.symm
  exact ty_ne hc HH.out.h (by decide) rfl)).trans (Below.heap_alloc _ _ _ lb)
 have hB1:=hb1.trans HH.out.h
 have cb1:w1.cell? ⟨b,1,none⟩=some (c 1):=heap_cell hB1 rfl
 have fb1:w1.frozen? ⟨b,1,none⟩=false:=by simp [World.frozen?,hB1]
 have lb1:=heap_lt hB1
 have hw2:(Value.slice ra1 (nn+1) q1).ownBlock=(c 1).ownBlock∨∃g,(Value.slice ra1 (nn+1) q1).ownBlock=some g∧w.heap.size≤g:=by
  rcases hw1 with e|e
  ·exact .inl e
  ·exact .inr ⟨_,e,by rw [World.size_alloc];omega⟩
 have HF:Hid (PutR w (w1.setCell ⟨b,1,none⟩ (.slice ra1 (nn+1) q1)) b c N V 1 (.slice ra m q) (.slice ra1 (nn+1) q1)):=by
  have hset:BkH (w1.setCell ⟨b,1,none⟩ (.slice ra1 (nn+1) q1)) b (upd c 1 (.slice ra1 (nn+1) q1)):=by
   show (w1.setCell _ _).heap[b]?=_
   rw [set_atC hB1];rfl
  refine put_row HH.out (by simp [Kin]) HL.out hm Hf.out ?_ hgrow1 hw2 hset
  rw [Hnn.out];exact hown1
 clear hown1 hgrow1 hold1 hw1 hw2 hB1 hb1 HH HL Hf HR HV Hnn
 go_wp2
 go_end0
 exact ⟨⟨_,rfl⟩,_,HF.out⟩
theorem not_rw:¬ Rw 32:=by
 rintro (h|⟨k,hk,h⟩)
 ·exact absurd h (by decide)
 ·rcases hk with rfl|rfl<;>exact absurd h (by decide)
theorem own_kpb {w w' : World} {base c n:Nat} {v:Value} {xs:List Value} (h:w.ownsRow base 32 c v n xs) (hk:KpB w w'):w'.ownsRow base 32 c v n xs:=own_same h fun g hg=>by
 obtain ⟨cs,hc⟩:=own_blk h hg
 exact hk.2 g cs _ hc not_rw
theorem Row.kpb {w w' : World} {base:Nat} (hk:KpB w w'):∀{f:Fo} {cs:List Value} {bs:List Nat},Row w base f cs bs→Row w' base f cs bs
 | .nil,_,_,h=>h
 | .cons _ _ _ _ _ _,_,_,⟨kv,kcs,kbs,rcs,rbs,hc,hb,ho,hs,hr⟩=>⟨kv,kcs,kbs,rcs,rbs,hc,hb,own_kpb ho hk,Row.kpb hk hs,Row.kpb hk hr⟩
structure PutsR (w w' : World) (b:Nat) (c:Nat→Value) (N:Nat→Nat) (V:Nat→Nat→Value) (c' : Nat→Value) (N' : Nat→Nat) (V' : Nat→Nat→Value) (bs:List Nat):Prop where
 bk:Bk w' b c' N' V' Kin
 n1:N' 1=N 1
 gr:∀g,BkF b c' N' V' Kin g→BkF b c N V Kin g∨g∈bs∨w.heap.size≤g
 kp:KpB w w'
 st:∀g,g<w.heap.size→¬ BkF b c N V Kin g→g ∉ bs→w'.heap[g]?=w.heap[g]?
theorem PutsR.trans {w w1 w2:World} {b:Nat} {c c1 c2:Nat→Value} {N N1 N2:Nat→Nat} {V V1 V2:Nat→Nat→Value} {bs bs1:List Nat} (h:PutsR w w1 b c N V c1 N1 V1 bs) (k:PutsR w1 w2 b c1 N1 V1 c2 N2 V2 bs1) (hb:∀g∈bs1,g∈bs):PutsR w w2 b c N V c2 N2 V2 bs:=by
 refine ⟨k.bk,k.n1.trans h.n1,fun g hg=>?_,h.kp.trans k.kp,fun g hg hn hs=>?_⟩
 ·rcases k.gr g hg with h1|h1|h1
  ·exact h.gr g h1
  ·exact .inr (.inl (hb g h1))
  ·exact .inr (.inr (Nat.le_trans h.kp.1.size h1))
 ·refine (k.st g (Nat.lt_of_lt_of_le hg h.kp.1.size) (fun e=>?_) (fun e=>hs (hb g e))).trans (h.st g hg hn hs)
  rcases h.gr g e with h1|h1|h1
  ·exact hn h1
  ·exact hs h1
  ·omega
def PutC (b MM:Nat):Prop:=∀(f:Fo) (c:Nat→Value) (N:Nat→Nat) (V:Nat→Nat→Value) (ra:Option Addr) (q base:Nat) (cs:List Value) (bs:List Nat) (w:World),f.size≤MM→Bk w b c N V Kin→N 12+f.size+1≤1000000→w.ownsRow base 32 5 (.slice ra f.len q) f.len cs→Row w base f cs bs→(own1 (.slice ra f.len q)++bs).Nodup→(∀g∈own1 (.slice ra f.len q)++bs,¬ BkF b c N V Kin g) →
 Calls Tryz.prog 86 #[.pointer (some ⟨b,0,none⟩), .slice ra f.len q] w fun e w' => (∃r,e = .returned r)∧∃c' N' V', PutsR w w' b c N V c' N' V' (own1 (.slice ra f.len q)++bs)∧N' 12≤N 12+f.size+1
def PutD (b MM:Nat):Prop:=∀(kk n:Int) (t:List UInt8) (d:Bool) (f:Fo) (c:Nat→Value) (N:Nat→Nat) (V:Nat→Nat→Value) (ra:Option Addr) (q base:Nat) (cs:List Value) (bs:List Nat) (w:World),f.size≤MM→Bk w b c N V Kin→N 12+f.size+1≤1000000→w.ownsRow base 32 5 (.slice ra f.len q) f.len cs→Row w base f cs bs→(own1 (.slice ra f.len q)++bs).Nodup→(∀g∈own1 (.slice ra f.len q)++bs,¬ BkF b c N V Kin g) →
 Calls Tryz.prog 32 #[.pointer (some ⟨b,0,none⟩), .agg #[.int .u8 kk, .int .i64 n,S t, .slice ra f.len q, .bool d]] w fun e w' => (∃r,e = .returned r)∧∃c' N' V', PutsR w w' b c N V c' N' V' (own1 (.slice ra f.len q)++bs)∧N' 12≤N 12+f.size+1
theorem putD_of {b MM:Nat} (h:PutC b MM):PutD b MM:=by
 intro kk n t d f c N V ra q base cs bs w hM hB hN hO hR hD hX
 have a1:=(Below.refl _ w).alloc (Nat.le_refl w.heap.size) (.cells #[.int .u8 kk, .int .i64 n,S t, .slice ra f.len q, .bool d] 32)
 have HC:Hid (Calls Tryz.prog 86 #[.pointer (some ⟨b,0,none⟩), .slice ra f.len q] (w.alloc (.cells #[.int .u8 kk, .int .i64 n,S t, .slice ra f.len q, .bool d] 32)) fun e w' => (∃r,e = .returned r)∧∃c' N' V', PutsR w w' b c N V c' N' V' (own1 (.slice ra f.len q)++bs)∧N' 12≤N 12+f.size+1):=(h f c N V ra q base cs bs _ hM (hB.below a1) hN (own_same hO fun g hg=>a1.block g (hO.lt g hg).2) (hR.kept fun g hg=>a1.block g (hR.lt g hg).2) hD hX).mono (by
  rintro e w' ⟨h1,c', N', V', hp,hn⟩
  refine ⟨h1,c', N', V', ⟨hp.bk,hp.n1,fun g hg=>?_,(KpB.of a1).trans hp.kp,fun g hg hn hs=>(hp.st g (Nat.lt_of_lt_of_le hg a1.size) hn hs).trans (a1.block g hg)⟩,hn⟩
  rcases hp.gr g hg with h|h|h
  ·exact .inl h
  ·exact .inr (.inl h)
  ·exact .inr (.inr (by rw [World.size_alloc] at h;omega)))
 clear h hB hN hO hR hD hX a1
 go_enter Tryz.func32,Tryz.ntmps32
 go_wp2_with fail
 refine HC.out.mono ?_
 rintro e w2 ⟨⟨rv,rfl⟩,hp⟩
 have HP:Hid _:=hp
 clear hp HC
 go_wp2
 go_end0
 exact ⟨⟨_,rfl⟩,HP.out⟩
theorem putC_of {b MM:Nat} (hrec:∀M,M<MM→PutD b M):PutC b MM:=by
 intro f c N V ra q base cs bs w hM h hN0 how hrow hnd hnot
 have hm:f.len≤1000000:=by have:=Fo.len_size f;omega
 have hN:N 12≤1000000:=by omega
 have hl:w.ownsRow 0 (KK 12).e (KK 12).sz (.slice ra f.len q) f.len cs:=own_mono how (Nat.zero_le _)
 have hf:∀g,(Value.slice ra f.len q).ownBlock=some g→¬ BkF b c N V Kin g:=fun g hg=>hnot g (List.mem_append_left _ (mem_own1.2 hg))
 obtain ⟨i3,hi3,hy0,hy1,hy2⟩:=info_parts infoLKD
 have HH:Hid (Bk w b c N V Kin):=h
 have HL:Hid (w.ownsRow 0 (KK 12).e (KK 12).sz (.slice ra f.len q) f.len cs):=hl
 have Hf:Hid (∀g,(Value.slice ra f.len q).ownBlock=some g→¬ BkF b c N V Kin g):=hf
 obtain ⟨n1,X1,h1⟩:=h.sh 12 (by simp [Kin])
 have HR:Hid (w.ownsRow 0 30 1 (c 12) (N 12) ((List.range (N 12)).map (V 12))):=h1.row
 obtain ⟨r0,q0,hv0⟩:=own_sl h1.row
 have cb:w.cell? ⟨b,12,none⟩=some (c 12):=heap_cell h.h rfl
 have lb:=heap_lt h.h
 have HRow:Hid (Row w base f cs bs):=hrow
 have HNd:Hid (own1 (.slice ra f.len q)++bs).Nodup:=hnd
 have HNot:Hid (∀g∈own1 (.slice ra f.len q)++bs,¬ BkF b c N V Kin g):=hnot
 have HOw:Hid (w.ownsRow base 32 5 (.slice ra f.len q) f.len cs):=how
 have HD:Hid (∀M,M<MM→PutD b M):=hrec
 have HN12:Hid (N 12+f.size+1≤1000000):=hN0
 have HV:Hid (c 12 = .slice r0 (N 12) q0):=hv0
 rw [hv0] at cb
 clear h hl hf h1 hv0 hrow hnd hnot how hrec hN0
 generalize hn:N 12=nn at *
 have Hnn:Hid (N 12=nn):=hn
 clear hn
 go_enter Tryz.func86,Tryz.ntmps86
 go_wp2_with (at_builtin;refine stop_of ?_)
 unfold Hid
 rw [←HV.out]
 refine wpList_append_told _ rfl _ _ 55 rfl 0 30 i3 (.slice none 0 0) 1 24 Tryz.underlying55 hi3 hy0 hy1 hy2 rfl (by decide) (c 12) nn ((List.range nn).map (V 12)) rfl (HR.out.alloc _) _ 1 1 [.slice ra f.len q] rfl rfl (cellQ_one _ _ _) (bslice_one _ _ _) (by unfold maxLen;omega) (by omega) (Nat.zero_le _) (by decide) ?_
 intro v1 w1 hown1 hgrow1 hold1 hw1
 obtain ⟨ra1,q1,hv1⟩:=own_sl hown1
 subst hv1
 have hs1:w.heap.size≤w1.heap.size:=by have:=hgrow1.size;rw [World.size_alloc] at this;omega
 have hb1:w1.heap[b]?=w.heap[b]?:=(hgrow1.block b (by rw [World.size_alloc];omega) (fun e=>by
  obtain ⟨cs,hc⟩:=own_blk HR.out e.symm
  exact ty_ne hc HH.out.h (by decide) rfl)).trans (Below.heap_alloc _ _ _ lb)
 have hB1:=hb1.trans HH.out.h
 have cb1:w1.cell? ⟨b,12,none⟩=some (c 12):=heap_cell hB1 rfl
 have fb1:w1.frozen? ⟨b,12,none⟩=false:=by simp [World.frozen?,hB1]
 have lb1:=heap_lt hB1
 have hw2:(Value.slice ra1 (nn+1) q1).ownBlock=(c 12).ownBlock∨∃g,(Value.slice ra1 (nn+1) q1).ownBlock=some g∧w.heap.size≤g:=by
  rcases hw1 with e|e
  ·exact .inl e
  ·exact .inr ⟨_,e,by rw [World.size_alloc];omega⟩
 have HF:Hid (PutR w (w1.setCell ⟨b,12,none⟩ (.slice ra1 (nn+1) q1)) b c N V 12 (.slice ra f.len q) (.slice ra1 (nn+1) q1)):=by
  have hset:BkH (w1.setCell ⟨b,12,none⟩ (.slice ra1 (nn+1) q1)) b (upd c 12 (.slice ra1 (nn+1) q1)):=by
   show (w1.setCell _ _).heap[b]?=_
   rw [set_atC hB1];rfl
  refine put_row HH.out (by simp [Kin]) HL.out hm Hf.out ?_ hgrow1 hw2 hset
  rw [Hnn.out];exact hown1
 clear hown1 hgrow1 hold1 hw1 hw2 hB1 hb1 HL Hf HR HV
 have HP0:Hid (PutsR w (w1.setCell ⟨b,12,none⟩ (.slice ra1 (nn+1) q1)) b c N V (upd c 12 (.slice ra1 (nn+1) q1)) (upd N 12 (N 12+1)) (upd V 12 (fun j=>if j=N 12 then .slice ra f.len q else V 12 j)) (own1 (.slice ra f.len q)++bs)):=by
  refine ⟨HF.out.bk,upd_ne _ _ (by decide),fun g hg=>?_,HF.out.kp,fun g h1 h2 _=>HF.out.st g h1 h2⟩
  rcases HF.out.gr g hg with h|h|h
  ·exact .inl h
  ·exact .inr (.inl (List.mem_append_left _ (mem_own1.2 h)))
  ·exact .inr (.inr h)
 have HN0:Hid (upd N 12 (N 12+1) 12=N 12+1):=upd_eq _ _ _
 have HNb:Hid (∀g∈bs,¬ BkF b (upd c 12 (.slice ra1 (nn+1) q1)) (upd N 12 (N 12+1)) (upd V 12 (fun j=>if j=N 12 then .slice ra f.len q else V 12 j)) Kin g):=fun g hg hF=>by
  rcases HF.out.gr g hF with h|h|h
  ·exact HNot.out g (List.mem_append_right _ hg) h
  ·exact (List.nodup_append.1 HNd.out).2.2 g (mem_own1.2 h) g hg rfl
  ·have:=(HRow.out.lt g hg).2;omega
 clear HF
 go_wp2_with fail
 clear cb cb1 fb1 lb1
 go_loopw [4] (fun i wr=>∃(j:Nat) (r:Fo) (dcs rcs:List Value) (rbs:List Nat) (c' : Nat→Value) (N' : Nat→Nat) (V' : Nat→Nat→Value),i = .int .i64 j∧r.len+j=f.len∧N' 12+r.size≤nn+f.size+1∧r.size≤f.size∧Hid (cs=dcs++rcs)∧Hid (dcs.length=j*5)∧Hid (Row w base r rcs rbs)∧Hid rbs.Nodup∧Hid (∀g∈rbs,g∈bs)∧Hid (∀g∈rbs,¬ BkF b c' N' V' Kin g)∧Hid (PutsR w wr b c N V c' N' V' (own1 (.slice ra f.len q)++bs))) (fun i _=>f.len-(intOf i).toNat)
 case atStart=>exact ⟨0,f,[],cs,bs,_,_,_,rfl,by simp,by have:=Hnn.out;rw [HN0.out];omega,Nat.le_refl _,rfl,rfl,HRow,(List.nodup_append.1 HNd.out).2.1,fun g hg=>hg,HNb,HP0⟩
 case round =>
  obtain ⟨j,r,dcs,rcs,rbs,c', N', V', rfl,hj,hsz,hrs,HCS,HDL,HRr,HNr,HSub,HNt,HP⟩:=hrel
  have hm0:=HN12.out
  cases r with
  | nil =>
   have hj' : j=f.len:=by simpa [Fo.len] using hj
   have i1:¬ ((j:Int)<(f.len:Int)):=by omega
   have HSz:Hid (N' 12≤nn+f.size+1):=by show _≤_;simpa [Fo.size] using hsz
   clear hj hj' hsz
   go_wp2
   go_end0
   exact ⟨⟨_,rfl⟩,c', N', ⟨V', HP.out⟩,HSz.out⟩
  | cons kk n t s d r =>
   simp only [Fo.len] at hj
   simp only [Fo.size] at hsz hrs
   obtain ⟨kv,kcs,kbs,rcs2,rbs2,hc,hbs,hok,hks,hkr⟩:=HRr.out
   obtain ⟨kra,kcap,rfl⟩:=own_slice hok
   have i1:(j:Int)<(f.len:Int):=by omega
   have i0:(0:Int)≤(j:Int):=by omega
   have howr:=own_kpb HOw.out HP.out.kp
   obtain ⟨g0,hg0⟩:∃g0,ra=some ⟨g0,0,none⟩:=by
    rcases howr.2 with ⟨_,h0⟩|⟨g', cap', cur,hv,_⟩
    ·omega
    ·cases hv;exact ⟨g', rfl⟩
   subst hg0
   have hx:∀i u,rcs[i]?=some u→wr.cell? ⟨g0,j*5+i,none⟩=some u:=fun i u hu=>by
    have:=howr.cells rfl (j*5+i) u (by rw [HCS.out,List.getElem?_append_right (by rw [HDL.out];omega),HDL.out,show j*5+i-j*5=i by omega];exact hu)
    rwa [addr_add] at this
   rw [hc] at hx
   have f0:=hx 0 _ rfl
   have f1:=hx 1 _ rfl
   have f2:=hx 2 _ rfl
   have f3:=hx 3 _ rfl
   have f4:=hx 4 _ rfl
   rw [Nat.add_zero] at f0
   have hnr:=HNr.out
   rw [hbs] at hnr
   have hnr1:=(List.nodup_append.1 hnr)
   have hsub:∀g∈own1 (.slice kra s.len kcap)++kbs,¬ BkF b c' N' V' Kin g:=fun g hg=>HNt.out g (by rw [hbs];exact List.mem_append_left _ hg)
   have HCC:Hid (Calls Tryz.prog 32 #[.pointer (some ⟨b,0,none⟩), .agg #[.int .u8 kk, .int .i64 n,S t, .slice kra s.len kcap, .bool d]] wr fun e w' => (∃r,e = .returned r)∧∃c2 N2 V2,PutsR wr w' b c' N' V' c2 N2 V2 (own1 (.slice kra s.len kcap)++kbs)∧N2 12≤N' 12+s.size+1):=HD.out s.size (by omega) kk n t d s c' N' V' kra kcap base kcs kbs wr (Nat.le_refl _) HP.out.bk (by omega) (own_kpb hok HP.out.kp) (hks.kpb HP.out.kp) hnr1.1 hsub
   have HCS2:Hid (cs=(dcs++[.int .u8 kk, .int .i64 n,S t, .slice kra s.len kcap, .bool d])++rcs2):=by show _=_;rw [HCS.out,hc];simp
   have HDL2:Hid ((dcs++[.int .u8 kk, .int .i64 n,S t, .slice kra s.len kcap, .bool d]).length=(j+1)*5):=by show _=_;rw [List.length_append,HDL.out];simp;omega
   have HRr2:Hid (Row w base r rcs2 rbs2):=hkr
   have HNr2:Hid rbs2.Nodup:=hnr1.2.1
   have HBs:Hid (rbs=own1 (.slice kra s.len kcap)++kbs++rbs2):=hbs
   have HDj:Hid (∀x∈own1 (.slice kra s.len kcap)++kbs,∀y∈rbs2,x≠y):=hnr1.2.2
   have HKlt:Hid (∀g∈rbs,g<w.heap.size):=fun g hg=>(HRr.out.lt g hg).2
   have lg:=cell_lt f0
   clear hc hbs hok hks hkr howr hx hnr hnr1 hsub
   go_wp2_with fail
   refine HCC.out.mono ?_
   rintro e w3 ⟨⟨rv,rfl⟩,c2,N2,V2,hp3,hn3⟩
   have hp33:=HP.out.trans hp3 (fun g hg=>List.mem_append_right _ (HSub.out g (by rw [HBs.out];exact List.mem_append_left _ hg)))
   have HP3:Hid _:=hp33
   have HNt3:Hid (∀g∈rbs2,¬ BkF b c2 N2 V2 Kin g):=fun g hg hF=>by
    rcases hp3.gr g hF with h|h|h
    ·exact HNt.out g (by rw [HBs.out];exact List.mem_append_right _ hg) h
    ·exact HDj.out g h g hg rfl
    ·have h1:=HKlt.out g (by rw [HBs.out];exact List.mem_append_right _ hg)
     have h2:=HP.out.kp.1.size
     omega
   clear hp3 hp33 f0 f1 f2 f3 f4 HCC
   go_wp2_with fail
   go_roundw
   case rel=>exact ⟨j+1,r,_,rcs2,rbs2,c2,N2,V2,by go_num,by omega,by omega,by omega,HCS2,HDL2,HRr2,HNr2,fun g hg=>HSub.out g (by rw [HBs.out];exact List.mem_append_right _ hg),HNt3,HP3⟩
   case measure=>simp [intOf];omega
theorem put_all (b:Nat):∀MM,PutC b MM:=fun MM=>by
 induction MM using Nat.strongRecOn with
 | _ N ih=>exact putC_of (fun M hM=>putD_of (ih M hM))
end Go.Proofs.YtkgnigloboajcaaGreatDoor
