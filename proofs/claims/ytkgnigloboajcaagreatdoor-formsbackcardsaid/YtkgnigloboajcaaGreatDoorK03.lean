/- Data, and how a source's tokens are read: plain mathematics, no program in it.; The reader's small functions.; An append that tells where its answer lies, and that the elder value still reads its row. -/
import Derived.Test.YtkgnigloboajcaaGreatDoorK00
import Derived.Test.YtkgnigloboajcaaGreatDoorK02
import Derived.Defers
import Derived.Recover
import Derived.WalkLawsBesides
import Derived.BigQuiet
import Derived.Deep.RegionHeld3
import Derived.Laws.AppendOwn
import Derived.Laws.OwnMore
namespace Go.Proofs.YtkgnigloboajcaaGreatDoor
inductive Fo where
 | nil
 | cons (kind:Int) (n:Int) (text:List UInt8) (kids:Fo) (dot:Bool) (rest:Fo)
def Fo.len:Fo→Nat
 | .nil=>0
 | .cons _ _ _ _ _ r=>r.len+1
def Fo.app:Fo→Fo→Fo
 | .nil,g=>g
 | .cons k n t s d r,g => .cons k n t s d (r.app g)
theorem Fo.app_nil (f:Fo):f.app .nil=f:=by induction f with|nil=>rfl|cons k n t s d r _ ih=>simp [Fo.app,ih]
theorem Fo.app_assoc (f g h:Fo):(f.app g).app h=f.app (g.app h):=by induction f with|nil=>rfl|cons k n t s d r _ ih=>simp [Fo.app,ih]
theorem Fo.len_app (f g:Fo):(f.app g).len=f.len+g.len:=by
 induction f with
 | nil=>simp [Fo.app,Fo.len]
 | cons k n t s d r _ ih=>simp [Fo.app,Fo.len,ih];omega
def Fo.same:Fo→Fo→Bool
 | .nil, .nil=>true
 | .cons k n t s d r, .cons k' n' t' s' d' r' => (k == k' && n == n' && t == t' && d == d' && s.same s') && r.same r'
 | _,_=>false
theorem Fo.same_iff (f:Fo):∀g,f.same g=true↔f=g:=by
 induction f with
 | nil=>intro g;cases g<;>simp [Fo.same]
 | cons k n t s d r ihs ihr =>
  intro g
  cases g with
  | nil=>simp [Fo.same]
  | cons k' n' t' s' d' r' =>
   simp only [Fo.same,Bool.and_eq_true,beq_iff_eq,ihs,ihr,Fo.cons.injEq]
   constructor
   ·rintro ⟨⟨⟨⟨⟨h1,h2⟩,h3⟩,h4⟩,h5⟩,h6⟩;exact ⟨h1,h2,h3,h5,h4,h6⟩
   ·rintro ⟨h1,h2,h3,h5,h4,h6⟩;exact ⟨⟨⟨⟨⟨h1,h2⟩,h3⟩,h4⟩,h5⟩,h6⟩
inductive Res where
 | ok (f:Fo) (dot:Bool) (rest:List Tok) (c:Nat)
 | bad (e p:Int)
def quoteT:List UInt8:=[113,117,111,116,101]
def Res.list:Res→Res
 | .ok f d r c => .ok (.cons 5 0 [] f d .nil) false r c
 | .bad e p => .bad e p
def Res.quote:Res→Res
 | .ok f _ r c => .ok (.cons 5 0 [] (.cons 2 0 quoteT .nil false f) false .nil) false r c
 | .bad e p => .bad e p
def tailOf:Fo→Fo × Bool
 | .cons k n t s d r=>if k=5 then (s,d) else (.cons k n t s d r,true)
 | .nil=>(.nil,true)
def Res.tail:Res→Res
 | .ok f _ (t::r) c=>if t.kind=2 then .ok (tailOf f).1 (tailOf f).2 r c else .bad 60 t.pos
 | .ok _ _ [] _ => .bad 0 0
 | .bad e p => .bad e p
def Res.behind (f:Fo):Res→Res
 | .ok g d r c => .ok (f.app g) d r c
 | .bad e p => .bad e p
def Res.then (x:Res) (K:Fo→List Tok→Nat→Res):Res :=
 match x with
 | .ok f _ r c=>K f r c
 | .bad e p => .bad e p
def isLeaf (k:Int):Bool:=k == 5 || k == 6 || k == 7 || k == 8
def leafOf (t:Tok):Fo := .cons (t.kind-4) (if t.kind=5 then t.n else 0) (if t.kind=6 then t.text else []) .nil false .nil
def one (R:Nat→List Tok→Nat→Nat→Res) (t:Tok) (ts:List Tok) (o c:Nat):Res :=
 if t.kind=1 then (if o=100 then .bad 61 t.pos else if 10000<c+1 then .bad 62 t.pos else (R 1 ts (o+1) (c+1)).list)
 else if t.kind=3 then (if o=100 then .bad 61 t.pos else if 10000<c+2 then .bad 62 t.pos else (R 0 ts (o+1) (c+2)).quote)
 else if isLeaf t.kind then (if 10000<c+1 then .bad 62 t.pos else .ok (leafOf t) false ts (c+1))
 else .bad 60 t.pos
def more (R:Nat→List Tok→Nat→Nat→Res) (m:Nat) (ts:List Tok) (o c:Nat):Res :=
 (R 0 ts o c).then fun f r c' => (R m r o c').behind f
def lst (R:Nat→List Tok→Nat→Nat→Res) (m:Nat) (t:Tok) (ts:List Tok) (o c:Nat):Res :=
 if m=3 then (if t.kind=9 then .ok .nil false ts c else more R 3 (t::ts) o c)
 else if t.kind=2 then .ok .nil false ts c
 else if t.kind=4 then (if m=1 then .bad 60 t.pos else (R 0 ts o c).tail)
 else more R 2 (t::ts) o c
def rd:Nat→Nat→List Tok→Nat→Nat→Res
 | 0,_,_,_,_ => .bad 0 0
 | _+1,_,[],_,_ => .bad 0 0
 | k+1,m,t::ts,o,c=>if m=0 then one (rd k) t ts o c else lst (rd k) m t ts o c
def mz (m:Nat):Nat:=if m=0 then 0 else 1
def rdf (m:Nat) (ts:List Tok) (o c:Nat):Res:=rd (2*ts.length+mz m+1) m ts o c
open Go.RowKit
structure But (rb:Nat) (w w' : World):Prop where
 os:w'.os=w.os
 tape:w'.tape=w.tape
 output:w'.output=w.output
 size:w.heap.size≤w'.heap.size
 block:∀g,g<w.heap.size→g≠rb→w'.heap[g]?=w.heap[g]?
theorem But.refl (rb:Nat) (w:World):But rb w w:=⟨rfl,rfl,rfl,Nat.le_refl _,fun _ _ _=>rfl⟩
theorem But.trans {rb:Nat} {a b c:World} (h:But rb a b) (k:But rb b c):But rb a c :=
 ⟨k.os.trans h.os,k.tape.trans h.tape,k.output.trans h.output,Nat.le_trans h.size k.size,fun g hg hne=>(k.block g (Nat.lt_of_lt_of_le hg h.size) hne).trans (h.block g hg hne)⟩
theorem But.of_below {rb:Nat} {w w' : World} (h:Below w.heap.size w w'):But rb w w' := ⟨h.os,h.tape,h.output,h.size,fun g hg _=>h.block g hg⟩
theorem But.below {rb B:Nat} {w w' : World} (h:But rb w w') (hB:B≤rb) (hs:B≤w.heap.size):Below B w w' := ⟨h.os,h.tape,h.output,h.size,fun g hg=>h.block g (by omega) (by omega)⟩
theorem But.set {rb o:Nat} {w w' : World} (h:But rb w w') (v:Value):But rb w (w'.setCell ⟨rb,o,none⟩ v) :=
 h.trans ⟨rfl,rfl,rfl,by simp [World.setCell],fun _ _ hne=>Below.heap_setCell _ _ _ _ hne⟩
theorem But.drew {rb:Nat} {w w' : World} (h:But rb w w'):But rb w w'.drew:=h.trans ⟨rfl,rfl,rfl,Nat.le_refl _,fun _ _ _=>rfl⟩
theorem set_at {W:World} {b j:Nat} {cs:Array Value} {t:TypeId} (h:W.heap[b]?=some (.cells cs t (0,0))) (v:Value):(W.setCell ⟨b,j,none⟩ v).heap[b]?=some (.cells (cs.setIfInBounds j v) t (0,0)):=by
 have hlt:=(Array.getElem?_eq_some_iff.1 h).1
 rw [Array.getElem?_eq_getElem hlt] at h
 have h2:=Option.some.inj h
 show (W.heap.modify b _)[b]?=_
 rw [Array.getElem?_eq_getElem (by simpa using hlt),Array.getElem_modify_self,h2]
 rfl
def fault (e p:Int):List PanicEntry:=[{ v := .iface 141 (.agg #[.int .i64 e, .int .i64 p]),recovered:=false }]
theorem own_prefix {w w' : World} {base e size g n n' cap cap' : Nat} {xs r:List Value} (h:w.ownsRow base e size (.slice (some ⟨g,0,none⟩) n cap) n xs) (h1:w.ownsRow base e size (.slice (some ⟨g,0,none⟩) n' cap') n' (xs++r))
  (h2:w'.ownsRow base e size (.slice (some ⟨g,0,none⟩) n' cap') n' (xs++r)):w'.ownsRow base e size (.slice (some ⟨g,0,none⟩) n cap) n xs:=by
 obtain ⟨hl,hc⟩:=h
 rcases hc with ⟨h', _⟩|⟨a,b,cur,hv,hb,hh,hn,hm,hz,ht⟩
 ·simp at h'
 rcases h1.2 with ⟨h', _⟩|⟨a1,b1,cur1,hv1,_,hh1,_,_,hz1,_⟩
 ·simp at h'
 obtain ⟨hl2,hc2⟩:=h2
 rcases hc2 with ⟨h', _⟩|⟨a2,b2,cur2,hv2,_,hh2,_,_,hz2,ht2⟩
 ·simp at h'
 simp only [Value.slice.injEq,Option.some.injEq,Addr.mk.injEq,and_true,true_and] at hv hv1 hv2
 obtain ⟨rfl,rfl⟩:=hv
 obtain ⟨rfl,rfl⟩:=hv1
 obtain ⟨rfl,rfl⟩:=hv2
 rw [hh] at hh1
 cases hh1
 refine ⟨hl, .inr ⟨g,cap,cur2,rfl,hb,hh2,hn,hm,by rw [hz2, ←hz1,hz],?_⟩⟩
 have:n*size≤n' * size:=by rw [←hl, ←hl2,List.length_append];omega
 have h3:(cur2.toList.take (n' * size)).take (n*size)=cur2.toList.take (n*size):=by rw [List.take_take,Nat.min_eq_left this]
 rw [←h3,ht2, ←hl,List.take_left]
theorem own_told {w w' : World} {base e size n n' : Nat} {v u:Value} {xs r:List Value} (h:w.ownsRow base e size v n xs) (h1:w.ownsRow base e size u n' (xs++r))
  (h2:w'.ownsRow base e size u n' (xs++r)) (hg:w.grownBy w' u.ownBlock):w'.ownsRow base e size v n xs:=by
 by_cases e:v.ownBlock=none∨v.ownBlock≠u.ownBlock
 ·exact h.kept hg e
 ·rcases h.2 with ⟨rfl,_⟩|⟨g,cap,cur,rfl,_⟩
  ·exact absurd (.inl rfl) e
  ·rcases h1.2 with ⟨rfl,_⟩|⟨g1,cap1,cur1,rfl,_⟩
   ·exact absurd (.inr (by simp [Value.ownBlock])) e
   ·have:g=g1:=by
     by_cases e' : g=g1
     ·exact e'
     ·exact absurd (.inr (by simp [Value.ownBlock,e'])) e
    subst this
    exact own_prefix h h1 h2
theorem append_told {P:Program} {w w' : World} {base:Nat} {t ty e:TypeId} {i:TypeInfo} {z:Value} {size bytes:Nat} (ht:P.underlying t=some (.slice e)) (hi:P.info? e=some i) (hz:i.zero=some z)
  (hsize:i.size=size) (hby:i.bytes=bytes) (hsz:0<size) {v v' : Value} {n:Nat} {xs:List Value} (hown:w.ownsRow base e size v n xs)
  {a:Addr} {m c:Nat} {news:List Value} (hl:news.length=m*size) (hnews:∀j u,news[j]?=some u→w.cell? (a.add j)=some u) (h1:∀u∈news,u.oneCell' = true)
  (h63:n+m≤maxLen) (hbytes:(n+m)*bytes≤140737488355328) (hm:0<m)
  (hrun:(Builtin.append_ #[t,t] ty #[v, .slice (some a) m c]).run P w = .ok v' w') (hown' : w'.ownsRow base e size v' (n+m) (xs++news)) (hg:w.grownBy w' v.ownBlock) :
  w'.ownsRow base e size v n xs∧(v'.ownBlock=v.ownBlock∨v'.ownBlock=some w.heap.size):=by
 subst hsize
 subst hby
 have hsmall:n+m≤9223372036854775807:=by simp only [maxLen] at h63;omega
 rcases hown.2 with ⟨rfl,rfl⟩|⟨g,cap,cur,rfl,hbg,hgg,hnc,hcm,hcs,htake⟩
 ·have hx:xs=[]:=List.eq_nil_of_length_eq_zero (by simpa using hown.1)
  subst hx
  have hr:=run_append_nil (P:=P) w t ty e i z ht hi hz a m c news hl hnews hm (by omega) (by have hb:=hbytes;simp only [Nat.zero_add] at hb;omega)
  rw [hrun] at hr
  cases hr
  exact ⟨World.ownsRow_nil _ _ _ _, .inr rfl⟩
 ·by_cases hroom:n+m≤cap
  ·have hfit:n*i.size+news.length≤cur.size:=by rw [hl,hcs, ←Nat.add_mul];exact Nat.mul_le_mul_right _ hroom
   have hr:=run_append_room (P:=P) w t ty e i ht hi g n cap cur hgg a m c news hl hnews h1 hroom hfit
   rw [hrun] at hr
   cases hr
   refine ⟨?_, .inl rfl⟩
   obtain ⟨hl2,hc2⟩:=hown'
   rcases hc2 with ⟨h', _⟩|⟨a2,b2,cur2,hv2,_,hh2,_,_,hz2,ht2⟩
   ·simp at h'
   simp only [Value.slice.injEq,Option.some.injEq,Addr.mk.injEq,and_true,true_and] at hv2
   obtain ⟨rfl,rfl⟩:=hv2
   refine ⟨hown.1, .inr ⟨g,cap,cur2,rfl,hbg,hh2,hnc,hcm,hz2,?_⟩⟩
   have:n*i.size≤(n+m)*i.size:=Nat.mul_le_mul_right _ (by omega)
   have h3:(cur2.toList.take ((n+m)*i.size)).take (n*i.size)=cur2.toList.take (n*i.size):=by rw [List.take_take,Nat.min_eq_left this]
   rw [←h3,ht2, ←hown.1,List.take_left]
  ·have hb:=append_full w t ty e i z ht hi hz base g n cap xs hown a m c news hl hnews h63 hbytes (by omega) hrun
   have holds:∀j u,xs[j]?=some u→w.cell? ((⟨g,0,none⟩:Addr).add j)=some u:=hown.cells (g:=g) rfl
   have hr:=run_append_grow (P:=P) w t ty e i z ht hi hz ⟨g,0,none⟩ n cap xs hown.1 holds a m c news hl hnews (by omega) (by omega) (growslice_fits (by omega) hbytes)
   rw [hrun] at hr
   cases hr
   refine ⟨⟨hown.1, .inr ⟨g,cap,cur,rfl,hbg,?_,hnc,hcm,hcs,htake⟩⟩, .inr rfl⟩
   rw [hb.block g (Array.getElem?_eq_some_iff.1 hgg).1];exact hgg
theorem wpList_append_told {P:Program} (w:World) {ops:Array Oper} {rest:List Oper} {o:Oper} {a:Act} {Q:Exit→Act→World→Prop} (hgd:o.guard=none) (s x:Operand) (t:TypeId)
  (ho:o.op = .call { callee := .builtin .append,args := #[s,x],argTypes := #[t,t] })
  (base:Nat) (e:TypeId) (i:TypeInfo) (z:Value) (size bytes:Nat) (ht:P.underlying t=some (.slice e)) (hi:P.info? e=some i) (hz:i.zero=some z)
  (hsize:i.size=size) (hby:i.bytes=bytes) (hzs:z.cells.size=size) (hsz:0<size)
  (v:Value) (n:Nat) (xs:List Value) (hs:a.eval s=v) (hown:w.ownsRow base e size v n xs)
  (ad:Addr) (m c:Nat) (news:List Value) (hx:a.eval x = .slice (some ad) m c) (hl:news.length=m*size) (hnews:∀j u,news[j]?=some u→w.cell? (ad.add j)=some u) (h1:∀u∈news,u.oneCell' = true)
  (h63:n+m≤maxLen) (hbytes:(n+m)*bytes≤140737488355328) (hbase:base≤w.heap.size) (hm:0<m)
  (h:∀v' w', w'.ownsRow base e size v' (n+m) (xs++news)→w.grownBy w' v.ownBlock→w'.ownsRow base e size v n xs→(v'.ownBlock=v.ownBlock∨v'.ownBlock=some w.heap.size)→wpList P ops Q rest (a.put o.dst v') w'):wpList P ops Q (o::rest) a w :=
 wpList_plain hgd fun _ hK=>by
  obtain ⟨v', w', hr,h2,h3,_⟩:=run_append_own (P:=P) w base t o.type e i z size bytes ht hi hz hsize hby hzs hsz v n xs hown ad m c news hl hnews h1 h63 hbytes hbase
  obtain ⟨h4,h5⟩:=append_told ht hi hz hsize hby hsz hown hl hnews h1 h63 hbytes hm hr h2 h3
  unfold Oper.wp execOp
  simp only [ho,resolve,invoke,builtin,Sem.run_bind,Sem.run_pure,Result.andThen_ok,List.map_toArray,List.map_cons,List.map_nil,hs,hx,hr]
  exact hK _ _ (h v' w' h2 h3 h4 h5)
end Go.Proofs.YtkgnigloboajcaaGreatDoor
