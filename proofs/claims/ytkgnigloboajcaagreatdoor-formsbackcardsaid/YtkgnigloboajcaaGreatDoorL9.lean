/- A datum that comes in.; A form that comes in. -/
import Derived.Test.YtkgnigloboajcaaGreatDoorHLaw
import Derived.Test.YtkgnigloboajcaaGreatDoorL6
import Derived.ChangeArms
import Derived.SizedLaws
import Derived.Test.YtkgnigloboajcaaGreatDoorL1
namespace Go.Proofs.YtkgnigloboajcaaGreatDoor
open Go.ChangeShapes Go.WideShapes Go.ChangeAt Go.RowKit
theorem cells?_cell {W:World} {b off n i:Nat} {cs:List Value} (h:W.cells? 0 ⟨b,off,none⟩ n=some cs) (hi:i<n):W.cell? ⟨b,off+i,none⟩=cs[i]?:=by
 unfold World.cells? at h
 rw [if_pos (Nat.zero_le _)] at h
 obtain ⟨v,hv,hc⟩:=Lib.mapM_at h i i (by simp [hi])
 rw [add_plain] at hc
 rw [hv,hc]
variable {H:Type} {enc:TypeId × Value→H} {W:World}
def Lt (t:TypeId) (d:DataW H):Prop:=∀n∈d.weights Tryz.prog t,n≤reachBytes
theorem lt_sized {ts:List TypeId} {ds:List (DataW H)} (h:(DataW.weightsEach Tryz.prog ts ds).all (· ≤ reachBytes)=true) {j:Nat} {t:TypeId} {d:DataW H} (ht:ts[j]?=some t) (hd:ds[j]?=some d):Lt t d :=
 fun n hn=>of_decide_eq_true (List.all_eq_true.1 h n (DataW.weights_mem_each ht hd n hn))
theorem wAll_mem {e:TypeId}:∀{l:List (DataW H)} {d:DataW H},d∈l→∀n∈d.weights Tryz.prog e,n∈DataW.weightsAll Tryz.prog e l
 | x::l,d,hd,n,hn=>by
  simp only [DataW.weightsAll,List.mem_append]
  rcases List.mem_cons.1 hd with rfl|h
  ·exact .inl hn
  ·exact .inr (wAll_mem h n hn)
theorem elemsF_of {α : Type} {T e sz:Nat} (hT:Tryz.prog.underlying T=some (.slice e)) (hc:Tryz.prog.cellsOf e=sz) (hz:0<sz) (P:Nat→Nat → α → Prop) {sp:Nat→Bool} {fuel:Nat}
  (hel:∀(m:Nat) (cs:List Value) (y:DataW H × List MemPlace) (b off:Nat),m<fuel→W.cells? 0 ⟨b,off,none⟩ sz=some cs→DataW.trod enc Tryz.prog W 0 sp true m e cs=some y→Lt e y.1→∃a : α, P b off a)
  {v:Value} {x:DataW H × List MemPlace} (h:DataW.trod enc Tryz.prog W 0 sp true fuel T [v]=some x) (hL:Lt T x.1) :
  ∃(ra:Option Addr) (l:List α) (cap:Nat),v = .slice ra l.length cap∧l.length≤cap∧cap≤maxLen∧l.length*Tryz.prog.bytesOf e≤reachBytes∧∃b o,(l.length=0∨ra=some ⟨b,o,none⟩)∧∀(j:Nat) (a : α),l[j]?=some a→P b (o+j*sz) a:=by
 rcases DataW.trod_slice hT h with ⟨hv,_⟩|⟨a,len,cap,elems,rest,n,hn,hv,hx,_,hl,hm,hlen,hell,_⟩
 ·cases hv
  exact ⟨none,[],0,rfl,Nat.le_refl _,Nat.zero_le _,by simp,0,0, .inl rfl,fun j a h=>(by simp at h)⟩
 ·cases hv
  rw [hc] at hell
  have hw:len*Tryz.prog.bytesOf e≤reachBytes:=by
   have:=hL ((elems.map (·.1)).length*Tryz.prog.bytesOf e+(rest.map (·.1)).length*Tryz.prog.bytesOf e) (by rw [hx];simp only [DataW.weights,hT,List.mem_cons];left;rw [Nat.add_mul])
   simp only [List.length_map] at this
   rw [hlen] at this;omega
  by_cases h0:len=0
  ·subst h0
   exact ⟨_,[],cap,rfl,Nat.zero_le _,hm,by simp,0,0, .inl rfl,fun j a h=>(by simp at h)⟩
  ·have e0:=hell 0 (by omega)
   obtain ⟨y0,hy0⟩:∃y,elems[0]?=some y:=⟨_,List.getElem?_eq_getElem (by omega)⟩
   rw [hy0,Option.bind_eq_some_iff] at e0
   obtain ⟨cs0,hcs0,_⟩:=e0
   obtain ⟨b,off,spot⟩:=a
   have hspot:spot=none:=by
    unfold World.cells? at hcs0
    rw [if_pos (Nat.zero_le _)] at hcs0
    obtain ⟨u,_,hu⟩:=Lib.mapM_at hcs0 0 0 (by simp [hz])
    simpa [Addr.add] using World.cell?_spot hu
   subst hspot
   have hone:∀i,i<len→∃a : α, P b (off+i*sz) a:=fun i hi=>by
    have h1:=hell i hi
    have h2:elems[i]?=some (elems[i]'(by omega)):=List.getElem?_eq_getElem _
    rw [h2,Option.bind_eq_some_iff] at h1
    obtain ⟨cs,hcs,hy⟩:=h1
    rw [add_plain] at hcs
    refine hel n cs _ b (off+i*sz) (by omega) hcs hy (fun k hk=>hL k ?_)
    rw [hx]
    simp only [DataW.weights,hT,List.mem_cons,List.mem_append]
    exact .inr (.inl (wAll_mem (List.mem_map.2 ⟨elems[i]'(by omega),List.getElem_mem _,rfl⟩) k hk))
   have hrow:∀(j i:Nat),i+j=len→∃l:List α, l.length=j∧∀(k:Nat) (a : α),l[k]?=some a→P b (off+(i+k)*sz) a:=by
    intro j
    induction j with
    | zero=>intro i _;exact ⟨[],rfl,fun k a h=>(by simp at h)⟩
    | succ j ih =>
     intro i hij
     obtain ⟨l,h1,h2⟩:=ih (i+1) (by omega)
     obtain ⟨a,ha⟩:=hone i (by omega)
     refine ⟨a::l,by simp [h1],fun k x hk=>?_⟩
     cases k with
     | zero=>simp at hk;subst hk;simpa using ha
     | succ k=>have:=h2 k x (by simpa using hk);rwa [show i+1+k=i+(k+1) by omega] at this
   obtain ⟨l,h1,h2⟩:=hrow len 0 (by omega)
   subst h1
   exact ⟨_,l,cap,rfl,hl,hm,hw,b,off, .inr rfl,fun j a h=>by have:=h2 j a h;rwa [Nat.zero_add] at this⟩
theorem cellsDat:Tryz.prog.cellsOf 32=5:=by kernel_rfl
theorem cellsDK:Tryz.prog.cellsOf 29=1:=by kernel_rfl
theorem cellsI64:Tryz.prog.cellsOf 2=1:=by kernel_rfl
theorem cellsSD:Tryz.prog.cellsOf 30=1:=by kernel_rfl
theorem cellsBool:Tryz.prog.cellsOf 4=1:=by kernel_rfl
theorem bytesDat:Tryz.prog.bytesOf 32=64:=by kernel_rfl
theorem five5 {cs:List Value} (h:cs.length=5):∃v0 v1 v2 v3 v4,cs=[v0,v1,v2,v3,v4]:=by
 rcases cs with _|⟨v0,_|⟨v1,_|⟨v2,_|⟨v3,_|⟨v4,_|⟨v5,r⟩⟩⟩⟩⟩⟩
 ·cases h
 ·cases h
 ·cases h
 ·cases h
 ·cases h
 ·exact ⟨v0,v1,v2,v3,v4,rfl⟩
 ·simp at h
theorem datL_of {sp:Nat→Bool} {fuel:Nat} {cs:List Value} {x:DataW H × List MemPlace} (h:DataW.trod enc Tryz.prog W 0 sp true fuel 32 cs=some x) (hL:Lt 32 x.1) :
  ∃(k n:Int) (t:List UInt8) (v:Value) (d:Bool) (m:Nat) (y:DataW H × List MemPlace),fuel=m+1∧cs=[.int .u8 k, .int .i64 n,S t,v, .bool d]∧t.length≤reachBytes∧DataW.trod enc Tryz.prog W 0 sp true m 30 [v]=some y∧Lt 30 y.1:=by
 obtain ⟨xs,m,hm,hxv,hl,hx,hf⟩:=DataW.trod_struct Tryz.underlying32 h
 rw [cellsDat] at hl
 have hx5:xs.length=5:=hx
 have f0:DataW.trod enc Tryz.prog W 0 sp true m 29 ((cs.drop 0).take (Tryz.prog.cellsOf 29))=xs[0]?:=hf 0 _ rfl
 have f1:DataW.trod enc Tryz.prog W 0 sp true m 2 ((cs.drop 1).take (Tryz.prog.cellsOf 2))=xs[1]?:=hf 1 _ rfl
 have f2:DataW.trod enc Tryz.prog W 0 sp true m 9 ((cs.drop 2).take (Tryz.prog.cellsOf 9))=xs[2]?:=hf 2 _ rfl
 have f3:DataW.trod enc Tryz.prog W 0 sp true m 30 ((cs.drop 3).take (Tryz.prog.cellsOf 30))=xs[3]?:=hf 3 _ rfl
 have f4:DataW.trod enc Tryz.prog W 0 sp true m 4 ((cs.drop 4).take (Tryz.prog.cellsOf 4))=xs[4]?:=hf 4 _ rfl
 obtain ⟨x0,x1,x2,x3,x4,rfl⟩:∃x0 x1 x2 x3 x4,xs=[x0,x1,x2,x3,x4]:=by
  rcases xs with _|⟨x0,_|⟨x1,_|⟨x2,_|⟨x3,_|⟨x4,_|⟨x5,r⟩⟩⟩⟩⟩⟩
  ·cases hx5
  ·cases hx5
  ·cases hx5
  ·cases hx5
  ·cases hx5
  ·exact ⟨x0,x1,x2,x3,x4,rfl⟩
  ·simp at hx5
 obtain ⟨k,c0,_⟩:=DataW.trod_int Tryz.underlying29 (show _=some x0 from f0)
 obtain ⟨n,c1,_⟩:=DataW.trod_int Tryz.underlying2 (show _=some x1 from f1)
 obtain ⟨s,c2,he2,hs⟩:=DataW.trod_string Tryz.underlying9 (show _=some x2 from f2)
 obtain ⟨d,c4,_⟩:=DataW.trod_bool Tryz.underlying4 (show _=some x4 from f4)
 obtain ⟨v0,v1,v2,v3,v4,rfl⟩:=five5 hl
 rw [show ([v0,v1,v2,v3,v4].drop 0).take (Tryz.prog.cellsOf 29)=[v0] by rw [cellsDK];rfl] at c0
 rw [show ([v0,v1,v2,v3,v4].drop 1).take (Tryz.prog.cellsOf 2)=[v1] by rw [cellsI64];rfl] at c1
 rw [show ([v0,v1,v2,v3,v4].drop 2).take (Tryz.prog.cellsOf 9)=[v2] by rw [cellsStr];rfl] at c2
 rw [show ([v0,v1,v2,v3,v4].drop 3).take (Tryz.prog.cellsOf 30)=[v3] by rw [cellsSD];rfl] at f3
 rw [show ([v0,v1,v2,v3,v4].drop 4).take (Tryz.prog.cellsOf 4)=[v4] by rw [cellsBool];rfl] at c4
 cases c0
 cases c1
 cases c2
 cases c4
 have hw:∀(j:Nat) (ty:TypeId) (u:DataW H),(([29,2,9,30,4]:List TypeId))[j]?=some ty→([x0.1,x1.1,x2.1,x3.1,x4.1])[j]?=some u→Lt ty u:=fun j ty u h1 h2 n hn=>hL n (by
  rw [hxv]
  simp only [DataW.weights,Tryz.underlying32]
  exact DataW.weights_mem_each h1 h2 n hn)
 refine ⟨k,n,s.data.toList,v3,d,m,x3,hm,by simp [S],?_,f3,hw 3 _ _ rfl rfl⟩
 refine hw 2 _ _ rfl rfl _ ?_
 rw [he2];simp [DataW.weights]
def Pd (W:World) (b o:Nat) (x:Dt):Prop:=(W.cell? ⟨b,o,none⟩=some (.int .u8 x.k)∧W.cell? ⟨b,o+1,none⟩=some (.int .i64 x.n)∧W.cell? ⟨b,o+2,none⟩=some (S x.t)∧W.cell? ⟨b,o+4,none⟩=some (.bool x.d))∧(∃rk ck,W.cell? ⟨b,o+3,none⟩=some (.slice rk x.s.len ck)∧RS W rk x.s)∧x.s.len≤maxLen∧x.t.length≤281474976710656∧x.s.sl
def foL:List Dt→Fo
 | [] => .nil
 | x::l=>x.fo (foL l)
theorem foL_len:∀l,(foL l).len=l.length
 | []=>rfl
 | _::l=>by simp only [foL,Dt.fo,Fo.len,foL_len l,List.length_cons]
theorem foL_rd {b:Nat}:∀{l:List Dt} {o:Nat},(∀(j:Nat) (x:Dt),l[j]?=some x→Pd W b (o+j*5) x)→Rd W b o (foL l)
 | [],_,_=>trivial
 | x::l,o,h=>by
  obtain ⟨⟨h1,h2,h3,h4⟩,⟨rk,ck,h5,b', o', hz,hr⟩,h6,_,_⟩:=h 0 x rfl
  simp only [Nat.zero_mul,Nat.add_zero] at h1 h2 h3 h4 h5
  exact ⟨⟨cell_lt h1,h1,h2,h3,h4,h6⟩,⟨rk,ck,b', o', h5,hz,hr⟩,foL_rd fun j y hy=>by
   have:=h (j+1) y (by simpa using hy)
   rwa [show o+(j+1)*5=o+5+j*5 by omega] at this⟩
theorem foL_sl {b:Nat}:∀{l:List Dt} {o:Nat},(∀(j:Nat) (x:Dt),l[j]?=some x→Pd W b (o+j*5) x)→(foL l).sl
 | [],_,_=>trivial
 | x::l,o,h=>by
  obtain ⟨_,_,_,h7,h8⟩:=h 0 x rfl
  exact ⟨h7,h8,foL_sl (o:=o+5) fun j y hy=>by
   have:=h (j+1) y (by simpa using hy)
   rwa [show o+(j+1)*5=o+5+j*5 by omega] at this⟩
theorem dataL_of {sp:Nat→Bool}:∀(fuel:Nat) (v:Value) (x:DataW H × List MemPlace),DataW.trod enc Tryz.prog W 0 sp true fuel 30 [v]=some x→Lt 30 x.1 →
  ∃(ra:Option Addr) (c:Nat) (f:Fo),v = .slice ra f.len c∧f.len≤c∧f.len≤281474976710656∧RS W ra f∧f.sl:=by
 intro fuel
 induction fuel using Nat.strongRecOn with
 | _ fuel ih =>
  intro v x h hL
  obtain ⟨ra,l,cap,hv,hcap,_,hw,b,o,ha,hp⟩:=elemsF_of (α := Dt) Tryz.underlying30 cellsDat (by decide) (Pd W) (fun m cs y b off hm hcs hy hy2=>by
   obtain ⟨k,n,t,v,d,m', y', hm', rfl,ht,hk,hk2⟩:=datL_of hy hy2
   obtain ⟨rk,ck,f,rfl,_,hl,hR,hs⟩:=ih m' (by omega) v y' hk hk2
   have c0:=cells?_cell hcs (i:=0) (by omega)
   have c1:=cells?_cell hcs (i:=1) (by omega)
   have c2:=cells?_cell hcs (i:=2) (by omega)
   have c3:=cells?_cell hcs (i:=3) (by omega)
   have c4:=cells?_cell hcs (i:=4) (by omega)
   exact ⟨⟨k,n,t,f,d⟩,⟨c0,c1,c2,c4⟩,⟨rk,ck,c3,hR⟩,by show f.len≤maxLen;unfold maxLen;omega,by show t.length≤_;unfold reachBytes at ht;omega,hs⟩) h hL
  rw [bytesDat] at hw
  unfold reachBytes at hw
  refine ⟨ra,cap,foL l,by rw [foL_len];exact hv,by rw [foL_len];exact hcap,by rw [foL_len];omega,⟨b,o,by rw [foL_len];exact ha,foL_rd hp⟩,foL_sl hp⟩
variable {H:Type} {enc:TypeId × Value→H} {W:World}
theorem cellsFrm:Tryz.prog.cellsOf 36=9:=by kernel_rfl
theorem cellsFK:Tryz.prog.cellsOf 23=1:=by kernel_rfl
theorem cellsSS:Tryz.prog.cellsOf 25=1:=by kernel_rfl
theorem cellsSF:Tryz.prog.cellsOf 34=1:=by kernel_rfl
theorem nine9 {cs:List Value} (h:cs.length=9):∃v0 v1 v2 v3 v4 v5 v6 v7 v8,cs=[v0,v1,v2,v3,v4,v5,v6,v7,v8]:=by
 match cs,h with
 | [v0,v1,v2,v3,v4,v5,v6,v7,v8],_=>exact ⟨v0,v1,v2,v3,v4,v5,v6,v7,v8,rfl⟩
theorem names_of {sp:Nat→Bool} {fuel:Nat} {v:Value} {x:DataW H × List MemPlace} (h:DataW.trod enc Tryz.prog W 0 sp true fuel 25 [v]=some x) (hL:Lt 25 x.1) :
  ∃(ra:Option Addr) (c:Nat) (l:List (List UInt8)),v = .slice ra l.length c∧l.length≤maxLen∧RN W ra l∧(∀s∈l,s.length≤281474976710656)∧l.length≤c:=by
 obtain ⟨ra,l,cap,hv,hcap,hm,_,b,o,ha,hp⟩:=elemsF_of (α := List UInt8) Tryz.underlying25 cellsStr (by decide) (fun b o s=>W.cell? ⟨b,o,none⟩=some (S s)∧s.length≤281474976710656) (fun m cs y b off _ hcs hy hy2=>by
  obtain ⟨s,hs,he,_⟩:=DataW.trod_string Tryz.underlying9 hy
  have c0:=cells?_cell hcs (i:=0) (by omega)
  rw [hs] at c0
  refine ⟨s.data.toList,by simpa [S] using c0,?_⟩
  have:=hy2 s.size (by rw [he];simp [DataW.weights])
  unfold reachBytes at this
  have e:s.data.toList.length=s.size:=by simp
  rw [e];omega) h hL
 refine ⟨ra,cap,l,hv,by omega,⟨b,o,?_,fun j s hs=>?_⟩,fun s hs=>?_,hcap⟩
 ·rcases ha with ha|ha
  ·exact .inl (List.length_eq_zero_iff.1 ha)
  ·exact .inr ha
 ·have:=(hp j s hs).1;rwa [Nat.mul_one] at this
 ·obtain ⟨j,hj⟩:=List.getElem?_of_mem hs
  exact (hp j s hj).2
theorem formL_of {sp:Nat→Bool} {fuel:Nat} {cs:List Value} {x:DataW H × List MemPlace} (h:DataW.trod enc Tryz.prog W 0 sp true fuel 36 cs=some x) (hL:Lt 36 x.1) :
  ∃(k:Int) (t:List UInt8) (nr:Option Addr) (nc:Nat) (ns:List (List UInt8)) (vk:Value) (d:Dt) (dr:Option Addr) (dc m:Nat) (y:DataW H × List MemPlace),fuel=m+1∧cs=[.int .u8 k,S t, .slice nr ns.length nc,vk, .int .u8 d.k, .int .i64 d.n,S d.t, .slice dr d.s.len dc, .bool d.d]∧t.length≤281474976710656∧(ns.length≤maxLen∧RN W nr ns∧(∀s∈ns,s.length≤281474976710656)∧ns.length≤nc)∧(RS W dr d.s∧d.s.len≤maxLen∧d.t.length≤281474976710656∧d.s.sl)∧DataW.trod enc Tryz.prog W 0 sp true m 34 [vk]=some y∧Lt 34 y.1:=by
 obtain ⟨xs,m,hm,hxv,hl,hx,hf⟩:=DataW.trod_struct Tryz.underlying36 h
 rw [cellsFrm] at hl
 have hx5:xs.length=5:=hx
 have f0:DataW.trod enc Tryz.prog W 0 sp true m 23 ((cs.drop 0).take (Tryz.prog.cellsOf 23))=xs[0]?:=hf 0 _ rfl
 have f1:DataW.trod enc Tryz.prog W 0 sp true m 9 ((cs.drop 1).take (Tryz.prog.cellsOf 9))=xs[1]?:=hf 1 _ rfl
 have f2:DataW.trod enc Tryz.prog W 0 sp true m 25 ((cs.drop 2).take (Tryz.prog.cellsOf 25))=xs[2]?:=hf 2 _ rfl
 have f3:DataW.trod enc Tryz.prog W 0 sp true m 34 ((cs.drop 3).take (Tryz.prog.cellsOf 34))=xs[3]?:=hf 3 _ rfl
 have f4:DataW.trod enc Tryz.prog W 0 sp true m 32 ((cs.drop 4).take (Tryz.prog.cellsOf 32))=xs[4]?:=hf 4 _ rfl
 obtain ⟨x0,x1,x2,x3,x4,rfl⟩:∃x0 x1 x2 x3 x4,xs=[x0,x1,x2,x3,x4]:=by
  match xs,hx5 with
  | [x0,x1,x2,x3,x4],_=>exact ⟨x0,x1,x2,x3,x4,rfl⟩
 obtain ⟨k,c0,_⟩:=DataW.trod_int Tryz.underlying23 (show _=some x0 from f0)
 obtain ⟨s,c1,he1,hs⟩:=DataW.trod_string Tryz.underlying9 (show _=some x1 from f1)
 obtain ⟨v0,v1,v2,v3,v4,v5,v6,v7,v8,rfl⟩:=nine9 hl
 rw [show ([v0,v1,v2,v3,v4,v5,v6,v7,v8].drop 0).take (Tryz.prog.cellsOf 23)=[v0] by rw [cellsFK];rfl] at c0
 rw [show ([v0,v1,v2,v3,v4,v5,v6,v7,v8].drop 1).take (Tryz.prog.cellsOf 9)=[v1] by rw [cellsStr];rfl] at c1
 rw [show ([v0,v1,v2,v3,v4,v5,v6,v7,v8].drop 2).take (Tryz.prog.cellsOf 25)=[v2] by rw [cellsSS];rfl] at f2
 rw [show ([v0,v1,v2,v3,v4,v5,v6,v7,v8].drop 3).take (Tryz.prog.cellsOf 34)=[v3] by rw [cellsSF];rfl] at f3
 rw [show ([v0,v1,v2,v3,v4,v5,v6,v7,v8].drop 4).take (Tryz.prog.cellsOf 32)=[v4,v5,v6,v7,v8] by rw [cellsDat];rfl] at f4
 cases c0
 cases c1
 have hw:∀(j:Nat) (ty:TypeId) (u:DataW H),(([23,9,25,34,32]:List TypeId))[j]?=some ty→([x0.1,x1.1,x2.1,x3.1,x4.1])[j]?=some u→Lt ty u:=fun j ty u h1 h2 n hn=>hL n (by
  rw [hxv]
  simp only [DataW.weights,Tryz.underlying36]
  exact DataW.weights_mem_each h1 h2 n hn)
 obtain ⟨nr,nc,ns,rfl,hn1,hn2,hn3,hn4⟩:=names_of (show _=some x2 from f2) (hw 2 _ _ rfl rfl)
 obtain ⟨dk,dn,dt,dv,db,m', y', _,hde,hdt,hdk,hdk2⟩:=datL_of (show _=some x4 from f4) (hw 4 _ _ rfl rfl)
 obtain ⟨dr,dc,df,rfl,_,hdl,hdR,hds⟩:=dataL_of m' dv y' hdk hdk2
 cases hde
 refine ⟨k,s.data.toList,nr,nc,ns,v3,⟨dk,dn,dt,df,db⟩,dr,dc,m,x3,hm,by simp [S],?_,⟨hn1,hn2,hn3,hn4⟩,⟨hdR,by show df.len≤maxLen;unfold maxLen;omega,by show dt.length≤_;unfold reachBytes at hdt;omega,hds⟩,f3,hw 3 _ _ rfl rfl⟩
 have:=hw 1 _ _ rfl rfl s.size (by rw [he1];simp [DataW.weights])
 unfold reachBytes at this
 have e:s.data.toList.length=s.size:=by simp
 rw [e];omega
def Pf (W:World) (b o:Nat) (x:Frm):Prop:=(W.cell? ⟨b,o,none⟩=some (.int .u8 x.kind)∧W.cell? ⟨b,o+1,none⟩=some (S x.text)∧W.cell? ⟨b,o+4,none⟩=some (.int .u8 x.dat.k)∧W.cell? ⟨b,o+5,none⟩=some (.int .i64 x.dat.n)∧W.cell? ⟨b,o+6,none⟩=some (S x.dat.t)∧W.cell? ⟨b,o+8,none⟩=some (.bool x.dat.d)) ∧
 (∃nr nc kr kc dr dc,(W.cell? ⟨b,o+2,none⟩=some (.slice nr x.names.length nc)∧W.cell? ⟨b,o+3,none⟩=some (.slice kr x.kids.len kc)∧W.cell? ⟨b,o+7,none⟩=some (.slice dr x.dat.s.len dc))∧x.kids.len≤kc∧RFo W x nr kr dr∧x.names.length≤nc∧NcS W kr x.kids)∧x.SL
def fmL:List Frm→Fm
 | [] => .nil
 | x::l=>x.fm (fmL l)
theorem fmL_len:∀l,(fmL l).len=l.length
 | []=>rfl
 | _::l=>by simp only [fmL,Frm.fm,Fm.len,fmL_len l,List.length_cons]
theorem fmL_rd {b:Nat}:∀{l:List Frm} {o:Nat},(∀(j:Nat) (x:Frm),l[j]?=some x→Pf W b (o+j*9) x)→RdF W (fmL l) b o
 | [],_,_=>trivial
 | x::l,o,h=>by
  obtain ⟨⟨h1,h2,h3,h4,h5,h6⟩,⟨nr,nc,kr,kc,dr,dc,⟨h7,h8,h9⟩,hc,hR,_,_⟩,_⟩:=h 0 x rfl
  simp only [Nat.zero_mul,Nat.add_zero] at h1 h2 h3 h4 h5 h6 h7 h8 h9
  obtain ⟨b', o', hz,hk⟩:=hR.k
  exact ⟨⟨h1,h2,h3,h4,h5,h6⟩,⟨nr,nc,kr,kc,dr,dc,⟨h7,h8,h9⟩,hR.n,⟨hc,b', o', hz,hk⟩,hR.d⟩,fmL_rd fun j y hy=>by
   have:=h (j+1) y (by simpa using hy)
   rwa [show o+(j+1)*9=o+9+j*9 by omega] at this⟩
theorem fmL_nc {b:Nat}:∀{l:List Frm} {o:Nat},(∀(j:Nat) (x:Frm),l[j]?=some x→Pf W b (o+j*9) x)→NcF W (fmL l) b o
 | [],_,_=>trivial
 | x::l,o,h=>by
  obtain ⟨_,⟨nr,nc,kr,kc,dr,dc,⟨h7,h8,_⟩,_,_,hn,kb,ko,hz,hk⟩,_⟩:=h 0 x rfl
  simp only [Nat.zero_mul,Nat.add_zero] at h7 h8
  exact ⟨⟨nr,nc,h7,hn⟩,⟨kr,kc,kb,ko,h8,hz,hk⟩,fmL_nc fun j y hy=>by
   have:=h (j+1) y (by simpa using hy)
   rwa [show o+(j+1)*9=o+9+j*9 by omega] at this⟩
theorem fmL_sls {b:Nat}:∀{l:List Frm} {o:Nat},(∀(j:Nat) (x:Frm),l[j]?=some x→Pf W b (o+j*9) x)→(fmL l).sls
 | [],_,_=>trivial
 | x::l,o,h=>by
  obtain ⟨_,_,hs⟩:=h 0 x rfl
  exact ⟨hs.t,hs.nl,hs.ns,hs.kl,⟨hs.dl,hs.dt,hs.ds⟩,hs.ks,fmL_sls (o:=o+9) fun j y hy=>by
   have:=h (j+1) y (by simpa using hy)
   rwa [show o+(j+1)*9=o+9+j*9 by omega] at this⟩
theorem formsL_of {sp:Nat→Bool}:∀(fuel:Nat) (v:Value) (x:DataW H × List MemPlace),DataW.trod enc Tryz.prog W 0 sp true fuel 34 [v]=some x→Lt 34 x.1 →
  ∃(ra:Option Addr) (c:Nat) (f:Fm),v = .slice ra f.len c∧f.len≤c∧f.len≤maxLen∧RSF W ra f∧f.sls∧NcS W ra f:=by
 intro fuel
 induction fuel using Nat.strongRecOn with
 | _ fuel ih =>
  intro v x h hL
  obtain ⟨ra,l,cap,hv,hcap,hmax,_,b,o,ha,hp⟩:=elemsF_of (α := Frm) Tryz.underlying34 cellsFrm (by decide) (Pf W) (fun m cs y b off hm hcs hy hy2=>by
   obtain ⟨k,t,nr,nc,ns,vk,d,dr,dc,m', y', hm', rfl,ht,⟨hn1,hn2,hn3,hn4⟩,⟨hd1,hd2,hd3,hd4⟩,hk,hk2⟩:=formL_of hy hy2
   obtain ⟨kr,kc,f,rfl,hkc,hkl,hR,hs,hnc⟩:=ih m' (by omega) vk y' hk hk2
   have c0:=cells?_cell hcs (i:=0) (by omega)
   have c1:=cells?_cell hcs (i:=1) (by omega)
   have c2:=cells?_cell hcs (i:=2) (by omega)
   have c3:=cells?_cell hcs (i:=3) (by omega)
   have c4:=cells?_cell hcs (i:=4) (by omega)
   have c5:=cells?_cell hcs (i:=5) (by omega)
   have c6:=cells?_cell hcs (i:=6) (by omega)
   have c7:=cells?_cell hcs (i:=7) (by omega)
   have c8:=cells?_cell hcs (i:=8) (by omega)
   exact ⟨⟨k,t,ns,f,d⟩,⟨c0,c1,c4,c5,c6,c8⟩,⟨nr,nc,kr,kc,dr,dc,⟨c2,c3,c7⟩,hkc,⟨hn2,hR,hd1⟩,hn4,hnc⟩,⟨ht,hn1,hn3,hkl,hd2,hd3,hd4,hs⟩⟩) h hL
  refine ⟨ra,cap,fmL l,by rw [fmL_len];exact hv,by rw [fmL_len];exact hcap,by rw [fmL_len];omega,⟨b,o,by rw [fmL_len];exact ha,fmL_rd hp⟩,fmL_sls hp,⟨b,o,by rw [fmL_len];exact ha,fmL_nc hp⟩⟩
theorem frm_of2 {sp:Nat→Bool} {v:Value} {d:DataW H} {p:List MemPlace} (hv:∃cs,v = .agg cs∧cs.size=Tryz.prog.cellsOf 36) (h:DataW.Trod enc Tryz.prog W 0 sp true 36 v d p) (hL:Lt 36 d):∃(f:Frm) (nr kr dr:Option Addr) (nc kc dc:Nat),v=frmV f (.slice nr f.names.length nc) (.slice kr f.kids.len kc) (.slice dr f.dat.s.len dc)∧f.kids.len≤kc∧RFo W f nr kr dr∧f.SL∧f.names.length≤nc∧NcS W kr f.kids:=by
 obtain ⟨cs,rfl,hcs⟩:=hv
 rw [cellsFrm] at hcs
 obtain ⟨v0,v1,v2,v3,v4,v5,v6,v7,v8,hl⟩:=nine9 (cs:=cs.toList) (by simpa using hcs)
 obtain ⟨fuel,hf⟩:=h
 have hf' : DataW.trod enc Tryz.prog W 0 sp true fuel 36 [v0,v1,v2,v3,v4,v5,v6,v7,v8]=some (d,p):=by rw [←hl];exact hf
 obtain ⟨k,t,nr,nc,ns,vk,d,dr,dc,m,y,_,he,ht,⟨hn1,hn2,hn3,hn4⟩,⟨hd1,hd2,hd3,hd4⟩,hk,hk2⟩:=formL_of hf' hL
 obtain ⟨kr,kc,f,rfl,hkc,hkl,hR,hs,hnc⟩:=formsL_of m vk y hk hk2
 refine ⟨⟨k,t,ns,f,d⟩,nr,kr,dr,nc,kc,dc,?_,hkc,⟨hn2,hR,hd1⟩,⟨ht,hn1,hn3,hkl,hd2,hd3,hd4,hs⟩,hn4,hnc⟩
 have e:cs = #[.int .u8 k,S t, .slice nr ns.length nc, .slice kr f.len kc, .int .u8 d.k, .int .i64 d.n,S d.t, .slice dr d.s.len dc, .bool d.d]:=by
  apply Array.toList_inj.1;rw [hl,he]
 rw [e]
end Go.Proofs.YtkgnigloboajcaaGreatDoor
