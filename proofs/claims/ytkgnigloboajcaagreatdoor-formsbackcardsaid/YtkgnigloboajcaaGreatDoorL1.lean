/- Lent data, whose memory lies in a stretch of blocks: row by row, one behind the other.; Names have the room that they take.; Lent texts and forms.; LentForms, LentForm.; WholeData, WholeTexts, WholeForms: what was lent, looked at.; SpoilData: whoever lent it writes over it.; SpoilForm: whoever lent it writes over it. -/
import Derived.Test.YtkgnigloboajcaaGreatDoorK41
import Derived.OwnWalk
import Derived.Deep.RegionHeld3
import Derived.Shelf.RegionOpenPlain
import Derived.Laws.OwnMore
set_option maxRecDepth 100000
set_option maxHeartbeats 16000000
namespace Go.Proofs.YtkgnigloboajcaaGreatDoor
open Go.RowKit
def sentL:List Value:=[.int .u8 0, .int .i64 (-77),S [], .slice none 0 0, .bool false]
def CI (w:World):Nat→Nat→Fo→List Value→Prop
 | lo,hi, .nil,cs=>cs=[]∧lo≤hi
 | lo,hi, .cons k n t s d r,cs=>∃g mid kcs rest,cs = .int .u8 k :: .int .i64 n::S t :: .slice (some ⟨g,0,none⟩) s.len (s.len+1) :: .bool d::rest∧(lo≤g∧g<mid) ∧
   w.ownsRow lo 32 5 (.slice (some ⟨g,0,none⟩) (s.len+1) (s.len+1)) (s.len+1) (kcs++sentL)∧CI w (g+1) mid s kcs∧CI w mid hi r rest
def LentI (w:World) (lo hi:Nat) (v:Value) (f:Fo):Prop :=
 ∃g cs,v = .slice (some ⟨g,0,none⟩) f.len (f.len+1)∧(lo≤g∧g<hi)∧w.ownsRow lo 32 5 (.slice (some ⟨g,0,none⟩) (f.len+1) (f.len+1)) (f.len+1) (cs++sentL)∧CI w (g+1) hi f cs
theorem CI.le {w:World}:∀{lo hi:Nat} {f:Fo} {cs:List Value},CI w lo hi f cs→lo≤hi
 | _,_, .nil,_,h=>h.2
 | _,_, .cons _ _ _ _ _ _,_,⟨_,_,_,_,_,⟨h1,h2⟩,_,_,h⟩=>by have:=CI.le h;omega
theorem CI.kept {w w' : World}:∀{lo hi:Nat} {f:Fo} {cs:List Value},CI w lo hi f cs→(∀g,lo≤g→g<hi→w'.heap[g]?=w.heap[g]?)→CI w' lo hi f cs
 | _,_, .nil,_,h,_=>h
 | lo,hi, .cons _ _ _ _ _ _,_,⟨g,mid,kcs,rest,hc,⟨h1,h2⟩,ho,hs,hr⟩,hk=>by
  have hm:=CI.le hr
  have hs' := CI.le hs
  exact ⟨g,mid,kcs,rest,hc,⟨h1,h2⟩,own_same ho (fun b hb=>by cases hb;exact hk g h1 (by omega)),CI.kept hs (fun b h3 h4=>hk b (by omega) (by omega)),CI.kept hr (fun b h3 h4=>hk b (by omega) (by omega))⟩
theorem CI.mono {w:World} {lo' : Nat}:∀{lo hi:Nat} {f:Fo} {cs:List Value},lo' ≤ lo→CI w lo hi f cs→CI w lo' hi f cs
 | _,_, .nil,_,hb,h=>⟨h.1,by have:=h.2;omega⟩
 | _,_, .cons _ _ _ _ _ _,_,hb,⟨g,mid,kcs,rest,hc,⟨h1,h2⟩,ho,hs,hr⟩=>⟨g,mid,kcs,rest,hc,⟨by omega,h2⟩,own_mono ho hb,hs,hr⟩
theorem CI.len {w:World}:∀{lo hi:Nat} {f:Fo} {cs:List Value},CI w lo hi f cs→cs.length=f.len*5
 | _,_, .nil,_,h=>by rw [h.1];rfl
 | _,_, .cons k n t s d r,_,⟨_,_,_,_,hc,_,_,_,hr⟩=>by rw [hc];simp [Fo.len,CI.len hr];omega
theorem CI.app {w:World} {hi:Nat} {g:Fo} {cs' : List Value}:∀{lo mid:Nat} {f:Fo} {cs:List Value},CI w lo mid f cs→CI w mid hi g cs' → CI w lo hi (f.app g) (cs++cs')
 | lo,mid, .nil,cs,h,h' => by rw [h.1];exact h'.mono h.2
 | lo,mid, .cons k n t s d r,cs,⟨b,m,kcs,rest,hc,h0,h1,h2,hr⟩,h' => ⟨b,m,kcs,rest++cs', by rw [hc];rfl,h0,h1,h2,CI.app hr h'⟩
theorem LentI.kept {w w' : World} {lo hi:Nat} {v:Value} {f:Fo} (h:LentI w lo hi v f) (hk:∀g,lo≤g→g<hi→w'.heap[g]?=w.heap[g]?):LentI w' lo hi v f:=by
 obtain ⟨g,cs,hv,⟨h1,h2⟩,ho,hc⟩:=h
 exact ⟨g,cs,hv,⟨h1,h2⟩,own_same ho (fun b hb=>by cases hb;exact hk g h1 h2),hc.kept (fun b h3 h4=>hk b (by omega) h4)⟩
theorem LentI.mono {w:World} {lo lo' hi:Nat} {v:Value} {f:Fo} (h:LentI w lo hi v f) (hb:lo' ≤ lo):LentI w lo' hi v f:=by
 obtain ⟨g,cs,hv,⟨h1,h2⟩,ho,hc⟩:=h
 exact ⟨g,cs,hv,⟨by omega,h2⟩,own_mono ho hb,hc⟩
theorem own_max {w:World} {base e c g n cap:Nat} {xs:List Value} (h:w.ownsRow base e c (.slice (some ⟨g,0,none⟩) n cap) n xs):base≤g∧g<w.heap.size∧n≤cap∧cap≤maxLen:=by
 refine ⟨(h.lt g rfl).1,(h.lt g rfl).2,?_⟩
 rcases h.2 with ⟨h0,_⟩|⟨g', cap', cur,hv,_,_,h1,h2,_⟩
 ·cases h0
 ·cases hv;exact ⟨h1,h2⟩
theorem own_cell {w:World} {base e c g n cap:Nat} {xs:List Value} (h:w.ownsRow base e c (.slice (some ⟨g,0,none⟩) n cap) n xs) (j:Nat) (u:Value) (hj:xs[j]?=some u):w.cell? ⟨g,j,none⟩=some u:=by
 have:=h.cells rfl j u hj
 rwa [addr_add] at this
theorem CI.rd {w:World}:∀{lo hi:Nat} {f:Fo} {cs:List Value} {g o:Nat},CI w lo hi f cs→g<w.heap.size→(∀j u,cs[j]?=some u→w.cell? ⟨g,o+j,none⟩=some u)→Rd w g o f
 | _,_, .nil,_,_,_,_,_,_=>trivial
 | _,_, .cons k n t s d r,cs,g,o,⟨b,mid,kcs,rest,hcs,_,ho,hs,hr⟩,hg,hc=>by
  subst hcs
  obtain ⟨_,hb,_,hmx⟩:=own_max ho
  refine ⟨⟨hg,hc 0 _ rfl,hc 1 _ rfl,hc 2 _ rfl,hc 4 _ rfl,by omega⟩,⟨_,_,b,0,hc 3 _ rfl, .inr rfl,CI.rd hs hb (fun j u hj=>?_)⟩,CI.rd hr hg (fun j u hj=>?_)⟩
  ·rw [Nat.zero_add]
   exact own_cell ho j u (by rw [List.getElem?_append_left (List.getElem?_eq_some_iff.1 hj).1];exact hj)
  ·have:=hc (j+5) u (by simpa using hj)
   rwa [show o+(j+5)=o+5+j by omega] at this
theorem LentI.rs {w:World} {lo hi:Nat} {v:Value} {f:Fo} (h:LentI w lo hi v f):∃g,v = .slice (some ⟨g,0,none⟩) f.len (f.len+1)∧RS w (some ⟨g,0,none⟩) f∧f.len+1≤maxLen∧lo≤g∧g<w.heap.size:=by
 obtain ⟨g,cs,rfl,_,ho,hc⟩:=h
 obtain ⟨h1,h2,_,h4⟩:=own_max ho
 refine ⟨g,rfl,⟨g,0, .inr rfl,hc.rd h2 (fun j u hj=>?_)⟩,h4,h1,h2⟩
 rw [Nat.zero_add]
 exact own_cell ho j u (by rw [List.getElem?_append_left (List.getElem?_eq_some_iff.1 hj).1];exact hj)
theorem LentI.sent {w:World} {lo hi g:Nat} {f:Fo} (h:LentI w lo hi (.slice (some ⟨g,0,none⟩) f.len (f.len+1)) f) :
  w.cell? ⟨g,f.len*5,none⟩=some (.int .u8 0)∧w.cell? ⟨g,f.len*5+1,none⟩=some (.int .i64 (-77))∧w.cell? ⟨g,f.len*5+1+1,none⟩=some (S [])∧w.cell? ⟨g,f.len*5+1+1+1,none⟩=some (.slice none 0 0)∧w.cell? ⟨g,f.len*5+1+1+1+1,none⟩=some (.bool false):=by
 obtain ⟨g', cs,hv,_,ho,hc⟩:=h
 cases hv
 have hl:=hc.len
 have e:∀i u,sentL[i]?=some u→w.cell? ⟨g,f.len*5+i,none⟩=some u:=by
  intro i u hi
  refine own_cell ho _ u ?_
  rw [←hl,List.getElem?_append_right (by omega)]
  simpa using hi
 exact ⟨e 0 _ rfl,e 1 _ rfl,e 2 _ rfl,e 3 _ rfl,e 4 _ rfl⟩
theorem grown_kept {w w' : World} {row:Nat} (h:w.grownBy w' (some row)):∀g,row+1≤g→g<w.heap.size→w'.heap[g]?=w.heap[g]?:=fun g h1 h2=>h.block g h2 (fun e=>by cases e;omega)
theorem grown_below {w w' : World} {row B:Nat} (h:w.grownBy w' (some row)) (hB:B≤row) (hs:B≤w.heap.size):Below B w w' := (Below.refl B w).grown h hs (fun k hk=>by cases hk;exact hB)
def LentC (N:Nat):Prop:=∀(f:Fo) (ra:Option Addr) (ca:Nat) (w:World),f.size≤N→f.size≤1000000→f.len≤1000000→RS w ra f →
 Calls Tryz.prog 47 #[.slice ra f.len ca] w fun e w' => ∃v,e = .returned v∧LentI w' w.heap.size w'.heap.size v f∧Below w.heap.size w w'
def LentD (N:Nat):Prop:=∀(k n:Int) (t:List UInt8) (s:Fo) (d:Bool) (rk:Option Addr) (ck:Nat) (w:World),s.size≤N→s.size≤1000000→s.len≤1000000→RS w rk s →
 Calls Tryz.prog 14 #[.agg #[.int .u8 k, .int .i64 n,S t, .slice rk s.len ck, .bool d]] w fun e w' => ∃v,e = .returned (.agg #[.int .u8 k, .int .i64 n,S t,v, .bool d])∧LentI w' w.heap.size w'.heap.size v s∧Below w.heap.size w w'
theorem CI.wide {w:World} {hi' : Nat}:∀{lo hi:Nat} {f:Fo} {cs:List Value},CI w lo hi f cs→hi≤hi' → CI w lo hi' f cs
 | _,_, .nil,_,h,hb=>⟨h.1,by have:=h.2;omega⟩
 | _,_, .cons _ _ _ _ _ _,_,⟨g,mid,kcs,rest,hc,h0,ho,hs,hr⟩,hb=>⟨g,mid,kcs,rest,hc,h0,ho,hs,CI.wide hr hb⟩
theorem LentI.wide {w:World} {lo hi hi' : Nat} {v:Value} {f:Fo} (h:LentI w lo hi v f) (hb:hi≤hi'):LentI w lo hi' v f:=by
 obtain ⟨g,cs,hv,⟨h1,h2⟩,ho,hc⟩:=h
 exact ⟨g,cs,hv,⟨h1,by omega⟩,ho,hc.wide hb⟩
abbrev X5 (k n:Int) (t:List UInt8) (v:Value) (d:Bool):Obj := .cells #[.int .u8 k, .int .i64 n,S t,v, .bool d] 32
theorem keepM {W W' : World} {g:Nat} {v0 v1 v2 v3 v4:Value} (hb:Below W.heap.size W W')
  (h:(W.cell? ⟨g,0,none⟩=some v0∧W.cell? ⟨g,1,none⟩=some v1∧W.cell? ⟨g,2,none⟩=some v2∧W.cell? ⟨g,3,none⟩=some v3∧W.cell? ⟨g,4,none⟩=some v4)∧g<W.heap.size) :
  (W'.cell? ⟨g,0,none⟩=some v0∧W'.cell? ⟨g,1,none⟩=some v1∧W'.cell? ⟨g,2,none⟩=some v2∧W'.cell? ⟨g,3,none⟩=some v3∧W'.cell? ⟨g,4,none⟩=some v4)∧g<W'.heap.size:=by
 obtain ⟨⟨a0,a1,a2,a3,a4⟩,hl⟩:=h
 have e:∀o,W'.cell? ⟨g,o,none⟩=W.cell? ⟨g,o,none⟩:=fun o=>hb.cell (p:=⟨g,o,none⟩) hl
 exact ⟨⟨(e _).trans a0,(e _).trans a1,(e _).trans a2,(e _).trans a3,(e _).trans a4⟩,Nat.lt_of_lt_of_le hl hb.size⟩
theorem lentD_of {N:Nat} (h:LentC N):LentD N:=by
 intro k n t s d rk ck w hN hb hm hR
 have HC:Hid (LentC N):=h
 have hW:Below w.heap.size w ((w.alloc (X5 k n t (.slice rk s.len ck) d)).alloc Z5):=(((Below.refl _ w).alloc (Nat.le_refl _) _).alloc (by simp) _)
 have HW:Hid (Below w.heap.size w ((w.alloc (X5 k n t (.slice rk s.len ck) d)).alloc Z5)):=hW
 have HR:Hid (RS ((w.alloc (X5 k n t (.slice rk s.len ck) d)).alloc Z5) rk s):=hR.below hW
 have q0:((w.alloc (X5 k n t (.slice rk s.len ck) d)).alloc Z5).heap[w.heap.size]?=some (.cells #[.int .u8 k, .int .i64 n,S t, .slice rk s.len ck, .bool d] 32 (0,0)):=(Below.heap_alloc _ _ _ (by simp)).trans (World.alloc_heap_new w _)
 have q1:((w.alloc (X5 k n t (.slice rk s.len ck) d)).alloc Z5).heap[w.heap.size+1]?=some (.cells #[.int .u8 0, .int .i64 0, .string ⟨#[]⟩, .slice none 0 0, .bool false] 32 (0,0)):=by
  have:=World.alloc_heap_new (w.alloc (X5 k n t (.slice rk s.len ck) d)) Z5
  rwa [World.size_alloc] at this
 have HQ1:Hid _:=q1
 obtain ⟨z0,z1,z2,z3,z4,_⟩:=cells5 q0
 obtain ⟨y0,y1,y2,y3,y4,yf⟩:=cells5 q1
 have f0:=yf 0
 have f1:=yf 1
 have f2:=yf 2
 have f3:=yf 3
 have f4:=yf 4
 have sz0:w.heap.size<((w.alloc (X5 k n t (.slice rk s.len ck) d)).alloc Z5).heap.size:=by simp;omega
 have sz:w.heap.size+1<((w.alloc (X5 k n t (.slice rk s.len ck) d)).alloc Z5).heap.size:=by simp
 clear h hR hW q0 q1 yf
 go_enter Tryz.func14,Tryz.ntmps14
 go_wp2_with fail
 generalize (w.alloc (X5 k n t (.slice rk s.len ck) d)).alloc Z5=W at *
 have hmx:Tryz.prog.follows .mixedOrders=true:=by kernel_rfl
 clear y0 y1 y2 y3 y4 f0 f1 f2 f3 f4
 go_region_held3 (fun wx=>(wx.cell? ⟨w.heap.size,0,none⟩=some (.int .u8 k)∧wx.cell? ⟨w.heap.size,1,none⟩=some (.int .i64 n)∧wx.cell? ⟨w.heap.size,2,none⟩=some (S t)∧wx.cell? ⟨w.heap.size,3,none⟩=some (.slice rk s.len ck)∧wx.cell? ⟨w.heap.size,4,none⟩=some (.bool d))∧w.heap.size<wx.heap.size) (first|go_keep|exact keepM hb1 (by go_keep))
   (first|(go_at_call 47;refine (HC.out s rk ck _ hN hb hm (HR.out.below (Below.refl _ _).drew)).mono ?_;rintro e w1 ⟨v,rfl,⟨g,cs,rfl,hgg,ho,hc⟩,hb1⟩;obtain ⟨y0,y1,y2,y3,y4,yf⟩:=cells5 ((hb1.block (w.heap.size+1) sz).trans HQ1.out);have f0:=yf 0;have f1:=yf 1;have f2:=yf 2;have f3:=yf 3;have f4:=yf 4))
 have HQ2:Hid (w1.heap[w.heap.size+1]?=_):=(hb1.block (w.heap.size+1) sz).trans HQ1.out
 have HB1:Hid (Below W.heap.size W w1):=(Below.refl _ W).drew.trans hb1
 have HL1:Hid (LentI w1 W.heap.size w1.heap.size (.slice (some ⟨g,0,none⟩) s.len (s.len+1)) s):=⟨g,cs,rfl,hgg,ho,hc⟩
 clear hb1 ho hc hgg
 go_wp2_with fail
 refine bodyPost_five (s:=2) rfl rfl rfl HQ2.out fun W5 o5 b5=>?_
 have hb5:=b5 w.heap.size (w.heap.size+1) (Nat.le_succ _)
 have hWs:=HW.out.size
 refine ⟨_,rfl,LentI.wide ((HL1.out.kept fun g' h1 _=>o5 g' (by omega)).mono hWs) hb5.size,HW.out.trans ((HB1.out.mono hWs).trans ⟨hb5.os,hb5.tape,hb5.output,hb5.size,fun g' h1=>o5 g' (by omega)⟩)⟩
theorem lent_of {N:Nat} (h:∀M,M<N→LentD M):LentC N:=by
 intro f ra ca w hN hb hm hR
 obtain ⟨i0,hi0,hz0,hz1,hz2⟩:=info_parts infoDat
 obtain ⟨b,o,hab,hRd⟩:=hR
 have HS:Hid (∀M,M<N→LentD M):=h
 have HRd:Hid (Rd w b o f):=hRd
 have Hra:Hid (f.len≠0→ra=some ⟨b,o,none⟩):=fun h=>hab.resolve_left h
 clear h hRd hab
 go_enter Tryz.func47,Tryz.ntmps47
 go_wp2_with (at_make;refine wpList_make_own _ rfl _ _ 30 rfl w.heap.size 32 i0 (.agg #[.int .u8 0, .int .i64 0, .string ⟨#[]⟩, .slice none 0 0, .bool false]) 5 Tryz.underlying30 hi0 hz0 hz1 .i64 .i64 _ (f.len+1) rfl rfl (by first|rfl|omega) (by rw [hz2];omega) (by unfold maxLen;omega) (Nat.le_refl _) ?_;intro w0 hown0 hgrow0)
 have HB0:Hid (Below w.heap.size w w0):=(Below.refl _ w).grown hgrow0 (Nat.le_refl _) (fun k hk=>by cases hk)
 have HO0:Hid _:=hown0
 clear hown0 hgrow0
 go_loopw [3,4] (fun x i wr=>∃(j:Nat) (q fi:Fo) (cs:List Value),x = .slice (some ⟨w.heap.size,0,none⟩) j (f.len+1)∧i = .int .i64 j∧fi.len+j=f.len∧fi.size≤f.size∧Hid (q.app fi=f)∧Hid (q.len=j)∧Hid (Rd w b (o+j*5) fi)∧Hid (wr.ownsRow w.heap.size 32 5 (.slice (some ⟨w.heap.size,0,none⟩) j (f.len+1)) j cs)∧Hid (CI wr (w.heap.size+1) wr.heap.size q cs)∧Hid (Below w.heap.size w wr)) (fun _ i _=>f.len-(intOf i).toNat)
 case atStart=>exact ⟨0, .nil,f,[],rfl,rfl,by simp,Nat.le_refl _,rfl,rfl,by simpa using HRd,HO0,⟨rfl,(World.ownsRow.lt HO0.out w.heap.size rfl).2⟩,HB0⟩
 case round =>
  obtain ⟨j,q,fi,cs,rfl,rfl,hj,hsz,HQ,HL,HF,HO,HC,HBj⟩:=hrel
  have lt0:=(HO.out.lt w.heap.size rfl).2
  cases fi with
  | nil =>
   have hj' : j=f.len:=by simpa [Fo.len] using hj
   subst hj'
   have hjl:¬ ((f.len:Int)<(f.len:Int)):=by omega
   have hq:q=f:=by have:=HQ.out;rwa [Fo.app_nil] at this
   have Hq:Hid _:=hq
   clear hj hq
   go_wp2_with (at_builtin;refine stop_of ?_)
   unfold Hid
   refine wpList_append_fits _ rfl _ _ 30 rfl w.heap.size 32 i0 5 Tryz.underlying30 hi0 hz1 w.heap.size f.len (f.len+1) cs rfl (HO.out.alloc _) ⟨_,0,none⟩ 1 1 [.int .u8 0, .int .i64 (-77),S [], .slice none 0 0, .bool false] rfl rfl (cell_five_at _ _ (by simp) _ _ _ _ _ _) (five_one _ _ _ _ _ _ _) (Nat.le_refl _) ?_
   intro w2 hown2 hgr2
   have HB2:Hid (Below w.heap.size w w2):=HBj.out.trans (((Below.refl _ wr).alloc (Nat.le_of_lt lt0) _).trans (grown_below hgr2 (Nat.le_refl _) (by simp;omega)))
   have HLn:Hid (LentI w2 w.heap.size w2.heap.size (.slice (some ⟨w.heap.size,0,none⟩) f.len (f.len+1)) f):=by
    have hz2:=hgr2.size
    rw [World.size_alloc] at hz2
    refine ⟨w.heap.size,cs,rfl,⟨Nat.le_refl _,by omega⟩,hown2,CI.wide ?_ (show wr.heap.size≤_ by omega)⟩
    have hc:=HC.out
    rw [Hq.out] at hc
    refine hc.kept fun g h1 h2=>?_
    rw [grown_kept hgr2 g h1 (by simp;omega)]
    exact Below.heap_alloc _ _ _ h2
   clear hown2 hgr2
   go_wp2
   go_ret
   exact ⟨_,rfl,HLn.out,HB2.out⟩
  | cons k n t s d r =>
   simp only [Fo.len] at hj
   simp only [Fo.size] at hsz
   have i1:(j:Int)<(f.len:Int):=by omega
   obtain ⟨⟨g0,g1,g2,g3,g4,g5⟩,⟨rk,ck,bk,ok,gk,gz,gs⟩,gr⟩:=HF.out
   have ec:∀o,wr.cell? ⟨b,o,none⟩=w.cell? ⟨b,o,none⟩:=fun o=>HBj.out.cell (p:=⟨b,o,none⟩) g0
   have h1:=(ec _).trans g1
   have h2:=(ec _).trans g2
   have h3:=(ec _).trans g3
   have h4:=(ec _).trans g4
   have hk:=(ec _).trans gk
   have h0:b<wr.heap.size:=Nat.lt_of_lt_of_le g0 HBj.out.size
   have HRk:Hid (RS w rk s):=⟨bk,ok,gz,gs⟩
   have Hr:Hid _:=gr
   have hra:=Hra.out (by omega)
   have hls:=Fo.len_size s
   subst hra
   clear ec g1 g2 g3 g4 gk gz gs gr
   go_wp2_with fail
   refine (HS.out s.size (by omega) k n t s d rk ck wr (Nat.le_refl _) (by omega) (by omega) (HRk.out.below HBj.out)).mono ?_
   rintro e w1 ⟨v,rfl,hL1,hb1⟩
   obtain ⟨g', kcs,rfl,hgg,hok,hck⟩:=hL1
   have HB1:Hid (Below w.heap.size w w1):=HBj.out.trans (hb1.mono HBj.out.size)
   have HO1:Hid (w1.ownsRow w.heap.size 32 5 (.slice (some ⟨w.heap.size,0,none⟩) j (f.len+1)) j cs):=own_same HO.out (fun g hg=>hb1.block g (HO.out.lt g hg).2)
   have HC1:Hid (CI w1 (w.heap.size+1) w1.heap.size (q.app (.cons k n t s d .nil)) (cs++[.int .u8 k, .int .i64 n,S t, .slice (some ⟨g', 0,none⟩) s.len (s.len+1), .bool d])) :=
    (HC.out.kept fun g _ h2=>hb1.block g h2).app ⟨g', w1.heap.size,kcs,[],rfl,hgg,hok,hck,rfl,Nat.le_refl _⟩
   have l1:=Nat.lt_of_lt_of_le lt0 hb1.size
   clear hb1 h1 h2 h3 h4 hk hok hck hgg
   go_wp2_with (at_builtin;refine stop_of ?_)
   unfold Hid
   refine wpList_append_fits _ rfl _ _ 30 rfl w.heap.size 32 i0 5 Tryz.underlying30 hi0 hz1 w.heap.size j (f.len+1) cs rfl (HO1.out.alloc _) ⟨_,0,none⟩ 1 1 [.int .u8 k, .int .i64 n,S t, .slice (some ⟨g', 0,none⟩) s.len (s.len+1), .bool d] rfl rfl (cell_five_at _ _ (by simp) _ _ _ _ _ _) (five_one _ _ _ _ _ _ _) (by omega) ?_
   intro w2 hown2 hgr2
   have HB2:Hid (Below w.heap.size w w2):=HB1.out.trans (((Below.refl _ w1).alloc (Nat.le_of_lt l1) _).trans (grown_below hgr2 (Nat.le_refl _) (by simp;omega)))
   have HC2:Hid (CI w2 (w.heap.size+1) w2.heap.size (q.app (.cons k n t s d .nil)) (cs++[.int .u8 k, .int .i64 n,S t, .slice (some ⟨g', 0,none⟩) s.len (s.len+1), .bool d])) :=
    (HC1.out.kept fun g h1 h2=>(grown_kept hgr2 g h1 (by simp;omega)).trans (Below.heap_alloc _ _ _ h2)).wide (by have:=hgr2.size;rw [World.size_alloc] at this;omega)
   have HO2:Hid _:=hown2
   clear hown2 hgr2
   go_wp2_with fail
   go_roundw
   case rel=>exact ⟨j+1,q.app (.cons k n t s d .nil),r,_,rfl,by go_num,by omega,by omega,by show _=_;rw [Fo.app_assoc];exact HQ.out,by show _=_;rw [Fo.len_app,HL.out];rfl,by rw [show o+(j+1)*5=o+j*5+5 by omega];exact Hr,HO2,HC2,HB2⟩
   case measure=>simp [intOf];omega
theorem lent_all:∀N,LentC N:=fun N=>by
 induction N using Nat.strongRecOn with
 | _ N ih=>exact lent_of (fun M hM=>lentD_of (ih M hM))
def NcF (w:World):Fm→Nat→Nat→Prop
 | .nil,_,_=>True
 | .cons _ _ ns ks _ _ _ _ _ r,b,o=>(∃nr nc,w.cell? ⟨b,o+2,none⟩=some (.slice nr ns.length nc)∧ns.length≤nc)∧(∃kr kc b' o', w.cell? ⟨b,o+3,none⟩=some (.slice kr ks.len kc)∧(ks.len=0∨kr=some ⟨b', o', none⟩)∧NcF w ks b' o')∧NcF w r b (o+9)
theorem NcF.below {w w' : World} (hb:Below w.heap.size w w'):∀{f:Fm} {b o:Nat},NcF w f b o→NcF w' f b o
 | .nil,_,_,_=>trivial
 | .cons _ _ _ _ _ _ _ _ _ _,b,o,⟨⟨nr,nc,h1,h2⟩,⟨kr,kc,b', o', h3,h4,h5⟩,h6⟩=>by
  have lt:=cell_lt h1
  have e:∀o,w'.cell? ⟨b,o,none⟩=w.cell? ⟨b,o,none⟩:=fun o=>hb.cell (p:=⟨b,o,none⟩) lt
  exact ⟨⟨nr,nc,(e _).trans h1,h2⟩,⟨kr,kc,b', o', (e _).trans h3,h4,NcF.below hb h5⟩,NcF.below hb h6⟩
def NcS (w:World) (ra:Option Addr) (f:Fm):Prop:=∃b o,(f.len=0∨ra=some ⟨b,o,none⟩)∧NcF w f b o
theorem NcS.below {w w' : World} {ra:Option Addr} {f:Fm} (h:NcS w ra f) (hb:Below w.heap.size w w'):NcS w' ra f:=by
 obtain ⟨b,o,h1,h2⟩:=h
 exact ⟨b,o,h1,h2.below hb⟩
def ownT:List UInt8:=[116,104,101,32,111,119,110,101,114,39,115]
def LentT (w:World) (lo hi:Nat) (v:Value) (l:List (List UInt8)):Prop :=
 ∃g,v = .slice (some ⟨g,0,none⟩) l.length (l.length+2)∧(lo≤g∧g<hi)∧w.ownsRow lo 9 1 (.slice (some ⟨g,0,none⟩) (l.length+2) (l.length+2)) (l.length+2) ((l++[ownT,ownT]).map S)
theorem LentT.kept {w w' : World} {lo hi:Nat} {v:Value} {l:List (List UInt8)} (h:LentT w lo hi v l) (hk:∀g,lo≤g→g<hi→w'.heap[g]?=w.heap[g]?):LentT w' lo hi v l:=by
 obtain ⟨g,hv,⟨h1,h2⟩,ho⟩:=h
 exact ⟨g,hv,⟨h1,h2⟩,own_same ho (fun b hb=>by cases hb;exact hk g h1 h2)⟩
theorem LentT.mono {w:World} {lo lo' hi hi' : Nat} {v:Value} {l:List (List UInt8)} (h:LentT w lo hi v l) (hb:lo' ≤ lo) (hh:hi≤hi'):LentT w lo' hi' v l:=by
 obtain ⟨g,hv,⟨h1,h2⟩,ho⟩:=h
 exact ⟨g,hv,⟨by omega,by omega⟩,own_mono ho hb⟩
theorem LentT.rn {w:World} {lo hi:Nat} {v:Value} {l:List (List UInt8)} (h:LentT w lo hi v l):∃g,v = .slice (some ⟨g,0,none⟩) l.length (l.length+2)∧RN w (some ⟨g,0,none⟩) l∧(lo≤g∧g<hi)∧g<w.heap.size∧w.cell? ⟨g,l.length,none⟩=some (S ownT)∧w.cell? ⟨g,l.length+1,none⟩=some (S ownT):=by
 obtain ⟨g,hv,h1,ho⟩:=h
 refine ⟨g,hv,⟨g,0, .inr rfl,fun j s hs=>?_⟩,h1,(own_max ho).2.1,?_,?_⟩
 ·rw [Nat.zero_add]
  refine own_cell ho j (S s) ?_
  rw [List.map_append,List.getElem?_append_left (by rw [List.length_map];exact (List.getElem?_eq_some_iff.1 hs).1),List.getElem?_map,hs];rfl
 ·refine own_cell ho _ (S ownT) ?_
  rw [List.map_append,List.getElem?_append_right (by simp)]
  simp
 ·refine own_cell ho _ (S ownT) ?_
  rw [List.map_append,List.getElem?_append_right (by simp)]
  simp
theorem wpList_fits_strs (W:World) {ops:Array Oper} {rest:List Oper} {o:Oper} {a:Act} {Q:Exit→Act→World→Prop} (hgd:o.guard=none) (s x:Operand)
  (ho:o.op = .call { callee := .builtin .append,args := #[s,x],argTypes := #[25,25] }) (base g n cap:Nat) (cs:List Value) (l2:List (List UInt8)) (hs:a.eval s = .slice (some ⟨g,0,none⟩) n cap) (hO:W.ownsRow base 9 1 (.slice (some ⟨g,0,none⟩) n cap) n cs)
  (xa:Option Addr) (xc:Nat) (hx:a.eval x = .slice xa l2.length xc) (hR:RX S W xa l2) (hfit:n+l2.length≤cap)
  (h:∀w', w'.ownsRow base 9 1 (.slice (some ⟨g,0,none⟩) (n+l2.length) cap) (n+l2.length) (cs++l2.map S)→W.grownBy w' (some g)→wpList Tryz.prog ops Q rest (a.put o.dst (.slice (some ⟨g,0,none⟩) (n+l2.length) cap)) w'):wpList Tryz.prog ops Q (o::rest) a W:=by
 obtain ⟨i0,hi0,hz0,hz1,hz2⟩:=info_parts infoStr
 cases l2 with
 | nil =>
  refine wpList_plain hgd fun _ hK=>wp_append_nothing W s x _ ho 9 i0 Tryz.underlying25 hi0 _ xa n cap xc (by omega) hs hx (hK _ _ ?_)
  exact h W (by rw [List.map_nil,List.append_nil];exact hO) ⟨rfl,rfl,rfl,Nat.le_refl _,fun _ _ _=>rfl⟩
 | cons y r =>
  obtain ⟨b,o', h3,h4⟩:=hR.at
  have h3:=h3 (by simp)
  subst h3
  refine wpList_append_fits W hgd _ _ 25 ho base 9 i0 1 Tryz.underlying25 hi0 hz1 g n cap cs hs hO ⟨b,o', none⟩ (y::r).length xc ((y::r).map S) hx (by simp) (fun j u hu=>?_) (fun u hu=>?_) hfit (fun w' h1 h2=>h w' h1 h2)
  ·rw [List.getElem?_map] at hu
   cases hx' : (y::r)[j]? with
   | none=>rw [hx'] at hu;cases hu
   | some x' =>
    rw [hx'] at hu
    cases hu
    rw [ad_add]
    exact (h4 j x' hx').2
  ·obtain ⟨x', _,rfl⟩:=List.mem_map.1 hu
   rfl
theorem lentT_any (l:List (List UInt8)) (ra:Option Addr) (ca:Nat) (w:World) (hm:l.length≤1000000) (hR:RX S w ra l) :
  Calls Tryz.prog 80 #[.slice ra l.length ca] w fun e w' => ∃v,e = .returned v∧LentT w' w.heap.size w'.heap.size v l∧Below w.heap.size w w' := by
 obtain ⟨i0,hi0,hz0,hz1,hz2⟩:=info_parts infoStr
 have HR:Hid (RX S w ra l):=hR
 obtain ⟨n,hn⟩:∃n,l.length=n:=⟨_,rfl⟩
 have HN:Hid (l.length=n):=hn
 rw [hn] at hm ⊢
 clear hR hn
 go_enter Tryz.func80,Tryz.ntmps80
 go_wp2_with (first|(at_builtin;refine stop_of ?_)|(at_make;refine wpList_make_own _ rfl _ _ 25 rfl w.heap.size 9 i0 (.string ⟨#[]⟩) 1 Tryz.underlying25 hi0 hz0 hz1 .i64 .i64 _ (n+2) rfl rfl (by first|rfl|omega) (by rw [hz2];omega) (by unfold maxLen;omega) (Nat.le_refl _) ?_;intro w0 hown0 hgrow0))
 have HB0:Hid (Below w.heap.size w w0):=(Below.refl _ w).grown hgrow0 (Nat.le_refl _) (fun k hk=>by cases hk)
 have HO0:Hid _:=hown0
 clear hown0 hgrow0
 unfold Hid
 refine wpList_fits_strs w0 rfl _ _ rfl w.heap.size w.heap.size 0 (n+2) [] l rfl HO0.out ra ca (by rw [HN.out];rfl) (HR.out.below HB0.out) (by have:=HN.out;omega) ?_
 intro w1 hown1 hgr1
 rw [HN.out,Nat.zero_add] at hown1 ⊢
 have HB1:Hid (Below w.heap.size w w1):=HB0.out.trans (grown_below hgr1 (Nat.le_refl _) HB0.out.size)
 have HO1:Hid _:=hown1
 clear hown1 hgr1
 go_wp2_with (at_builtin;refine stop_of ?_)
 unfold Hid
 refine wpList_fits_strs _ rfl _ _ rfl w.heap.size w.heap.size n (n+2) _ [ownT,ownT] rfl (World.ownsRow.alloc HO1.out _) (some ⟨w1.heap.size,0,none⟩) 2 rfl ⟨w1.heap.size,0, .inr rfl,fun j x hx=>⟨by rw [World.size_alloc];omega,by
  rw [Nat.zero_add]
  refine new_cell w1 _ _ j (S x) ?_
  match j,hx with
  | 0,hx=>cases hx;rfl
  | 1,hx=>cases hx;rfl⟩⟩ (Nat.le_refl _) ?_
 intro w2 hown2 hgr2
 have HB2:Hid (Below w.heap.size w w2):=HB1.out.trans (((Below.refl _ w1).alloc HB1.out.size _).trans (grown_below hgr2 (Nat.le_refl _) (by rw [World.size_alloc];have:=HB1.out.size;omega)))
 have HO2:Hid (LentT w2 w.heap.size w2.heap.size (.slice (some ⟨w.heap.size,0,none⟩) n (n+2)) l):=by
  have e:l.length=n:=HN.out
  refine ⟨w.heap.size,by rw [e],⟨Nat.le_refl _,(World.ownsRow.lt hown2 w.heap.size rfl).2⟩,?_⟩
  rw [e,List.map_append]
  exact hown2
 clear hown2 hgr2
 go_wp2
 go_ret
 exact ⟨_,rfl,HO2.out,HB2.out⟩
def sentF:List Value:=[.int .u8 0,S ownT, .slice none 0 0, .slice none 0 0, .int .u8 0, .int .i64 0,S [], .slice none 0 0, .bool false]
def CF (w:World):Nat→Nat→Fm→List Value→Prop
 | lo,hi, .nil,cs=>cs=[]∧lo≤hi
 | lo,hi, .cons k t ns ks dk dn dt ds dd r,cs=>∃nv gk dv m1 m2 mid kcs rest,cs = .int .u8 k::S t::nv :: .slice (some ⟨gk,0,none⟩) ks.len (ks.len+1) :: .int .u8 dk :: .int .i64 dn::S dt::dv :: .bool dd::rest ∧
   LentT w lo m1 nv ns∧((m1≤gk∧gk<m2)∧w.ownsRow m1 36 9 (.slice (some ⟨gk,0,none⟩) (ks.len+1) (ks.len+1)) (ks.len+1) (kcs++sentF)∧CF w (gk+1) m2 ks kcs)∧LentI w m2 mid dv ds∧CF w mid hi r rest
def LentF (w:World) (lo hi:Nat) (v:Value) (f:Fm):Prop :=
 ∃g cs,v = .slice (some ⟨g,0,none⟩) f.len (f.len+1)∧(lo≤g∧g<hi)∧w.ownsRow lo 36 9 (.slice (some ⟨g,0,none⟩) (f.len+1) (f.len+1)) (f.len+1) (cs++sentF)∧CF w (g+1) hi f cs
theorem LentT.le {w:World} {lo hi:Nat} {v:Value} {l:List (List UInt8)} (h:LentT w lo hi v l):lo<hi:=by
 obtain ⟨g,_,⟨h1,h2⟩,_⟩:=h;omega
theorem LentI.le {w:World} {lo hi:Nat} {v:Value} {f:Fo} (h:LentI w lo hi v f):lo<hi:=by
 obtain ⟨g,_,_,⟨h1,h2⟩,_⟩:=h;omega
theorem CF.le {w:World}:∀{lo hi:Nat} {f:Fm} {cs:List Value},CF w lo hi f cs→lo≤hi
 | _,_, .nil,_,h=>h.2
 | _,_, .cons _ _ _ _ _ _ _ _ _ _,_,⟨_,_,_,_,_,_,_,_,_,h1,⟨h2,_,_⟩,h3,h⟩=>by have:=CF.le h;have:=h1.le;have:=h3.le;omega
theorem CF.kept {w w' : World}:∀{lo hi:Nat} {f:Fm} {cs:List Value},CF w lo hi f cs→(∀g,lo≤g→g<hi→w'.heap[g]?=w.heap[g]?)→CF w' lo hi f cs
 | _,_, .nil,_,h,_=>h
 | lo,hi, .cons _ _ _ _ _ _ _ _ _ _,_,⟨nv,gk,dv,m1,m2,mid,kcs,rest,hc,h1,⟨⟨h2,h3⟩,ho,hs⟩,h4,hr⟩,hk=>by
  have hm:=CF.le hr
  have hs' := CF.le hs
  have l1:=h1.le
  have l4:=h4.le
  exact ⟨nv,gk,dv,m1,m2,mid,kcs,rest,hc,h1.kept (fun b h5 h6=>hk b h5 (by omega)),⟨⟨h2,h3⟩,own_same ho (fun b hb=>by cases hb;exact hk gk (by omega) (by omega)),CF.kept hs (fun b h5 h6=>hk b (by omega) (by omega))⟩,h4.kept (fun b h5 h6=>hk b (by omega) (by omega)),CF.kept hr (fun b h5 h6=>hk b (by omega) h6)⟩
theorem CF.mono {w:World} {lo' : Nat}:∀{lo hi:Nat} {f:Fm} {cs:List Value},lo' ≤ lo→CF w lo hi f cs→CF w lo' hi f cs
 | _,_, .nil,_,hb,h=>⟨h.1,by have:=h.2;omega⟩
 | _,_, .cons _ _ _ _ _ _ _ _ _ _,_,hb,⟨nv,gk,dv,m1,m2,mid,kcs,rest,hc,h1,h2,h4,hr⟩=>⟨nv,gk,dv,m1,m2,mid,kcs,rest,hc,h1.mono hb (Nat.le_refl _),h2,h4,hr⟩
theorem CF.wide {w:World} {hi' : Nat}:∀{lo hi:Nat} {f:Fm} {cs:List Value},CF w lo hi f cs→hi≤hi' → CF w lo hi' f cs
 | _,_, .nil,_,h,hb=>⟨h.1,by have:=h.2;omega⟩
 | _,_, .cons _ _ _ _ _ _ _ _ _ _,_,⟨nv,gk,dv,m1,m2,mid,kcs,rest,hc,h1,h2,h4,hr⟩,hb=>⟨nv,gk,dv,m1,m2,mid,kcs,rest,hc,h1,h2,h4,CF.wide hr hb⟩
theorem CF.len {w:World}:∀{lo hi:Nat} {f:Fm} {cs:List Value},CF w lo hi f cs→cs.length=f.len*9
 | _,_, .nil,_,h=>by rw [h.1];rfl
 | _,_, .cons _ _ _ _ _ _ _ _ _ r,_,⟨_,_,_,_,_,_,_,_,hc,_,_,_,hr⟩=>by rw [hc];simp [Fm.len,CF.len hr];omega
theorem CF.app {w:World} {hi:Nat} {g:Fm} {cs' : List Value}:∀{lo mid:Nat} {f:Fm} {cs:List Value},CF w lo mid f cs→CF w mid hi g cs' → CF w lo hi (f.app g) (cs++cs')
 | lo,mid, .nil,cs,h,h' => by rw [h.1];exact h'.mono h.2
 | lo,mid, .cons _ _ _ _ _ _ _ _ _ r,cs,⟨nv,gk,dv,m1,m2,m3,kcs,rest,hc,h1,h2,h4,hr⟩,h' => ⟨nv,gk,dv,m1,m2,m3,kcs,rest++cs', by rw [hc];rfl,h1,h2,h4,CF.app hr h'⟩
theorem LentF.kept {w w' : World} {lo hi:Nat} {v:Value} {f:Fm} (h:LentF w lo hi v f) (hk:∀g,lo≤g→g<hi→w'.heap[g]?=w.heap[g]?):LentF w' lo hi v f:=by
 obtain ⟨g,cs,hv,⟨h1,h2⟩,ho,hc⟩:=h
 exact ⟨g,cs,hv,⟨h1,h2⟩,own_same ho (fun b hb=>by cases hb;exact hk g h1 h2),hc.kept (fun b h3 h4=>hk b (by omega) h4)⟩
theorem LentF.le {w:World} {lo hi:Nat} {v:Value} {f:Fm} (h:LentF w lo hi v f):lo<hi:=by
 obtain ⟨g,_,_,⟨h1,h2⟩,_⟩:=h;omega
theorem CF.rd {w:World}:∀{lo hi:Nat} {f:Fm} {cs:List Value} {g o:Nat},CF w lo hi f cs→(∀j u,cs[j]?=some u→w.cell? ⟨g,o+j,none⟩=some u)→RdF w f g o∧NcF w f g o
 | _,_, .nil,_,_,_,_,_=>⟨trivial,trivial⟩
 | _,_, .cons k t ns ks dk dn dt ds dd r,cs,g,o,⟨nv,gk,dv,m1,m2,mid,kcs,rest,hcs,h1,⟨h2,ho,hs⟩,h4,hr⟩,hc=>by
  subst hcs
  obtain ⟨gn,rfl,hn,_⟩:=h1.rn
  obtain ⟨gd,rfl,hd,_⟩:=h4.rs
  have hk:=CF.rd hs (g:=gk) (o:=0) (fun j u hj=>by
   rw [Nat.zero_add]
   exact own_cell ho j u (by rw [List.getElem?_append_left (List.getElem?_eq_some_iff.1 hj).1];exact hj))
  have hR:=CF.rd hr (g:=g) (o:=o+9) (fun j u hj=>by
   have:=hc (j+9) u (by simpa using hj)
   rwa [show o+(j+9)=o+9+j by omega] at this)
  refine ⟨⟨⟨hc 0 _ rfl,hc 1 _ rfl,hc 4 _ rfl,hc 5 _ rfl,hc 6 _ rfl,hc 8 _ rfl⟩,⟨_,_,_,_,_,_,⟨hc 2 _ rfl,hc 3 _ rfl,hc 7 _ rfl⟩,hn,⟨by omega,gk,0, .inr rfl,hk.1⟩,hd⟩,hR.1⟩,?_⟩
  exact ⟨⟨_,_,hc 2 _ rfl,by omega⟩,⟨_,_,gk,0,hc 3 _ rfl, .inr rfl,hk.2⟩,hR.2⟩
theorem LentF.rs {w:World} {lo hi:Nat} {v:Value} {f:Fm} (h:LentF w lo hi v f):∃g,v = .slice (some ⟨g,0,none⟩) f.len (f.len+1)∧RSF w (some ⟨g,0,none⟩) f∧NcS w (some ⟨g,0,none⟩) f∧f.len+1≤maxLen∧lo≤g∧g<w.heap.size:=by
 obtain ⟨g,cs,rfl,_,ho,hc⟩:=h
 obtain ⟨h1,h2,_,h4⟩:=own_max ho
 have:=hc.rd (g:=g) (o:=0) (fun j u hj=>by
  rw [Nat.zero_add]
  exact own_cell ho j u (by rw [List.getElem?_append_left (List.getElem?_eq_some_iff.1 hj).1];exact hj))
 exact ⟨g,rfl,⟨g,0, .inr rfl,this.1⟩,⟨g,0, .inr rfl,this.2⟩,h4,h1,h2⟩
open Go.RowKit Go.Maps Go.ChangeMaps
def LFs (g:Fm):Prop:=∀(ra:Option Addr) (ca:Nat) (w:World),g.oks→g.len≤1000000→RSF w ra g →
 Calls Tryz.prog 81 #[.slice ra g.len ca] w fun e w' => ∃v,e = .returned v∧LentF w' w.heap.size w'.heap.size v g∧Below w.heap.size w w'
def LentO (w:World) (lo hi:Nat) (f:Frm) (nv kv dv:Value):Prop:=∃m1 m2,LentT w lo m1 nv f.names∧LentF w m1 m2 kv f.kids∧LentI w m2 hi dv f.dat.s
def LFo (f:Frm):Prop:=∀(nr kr dr:Option Addr) (nc kc dc:Nat) (w:World),FOk f→f.kids.oks→RFo w f nr kr dr →
 Calls Tryz.prog 26 #[frmV f (.slice nr f.names.length nc) (.slice kr f.kids.len kc) (.slice dr f.dat.s.len dc)] w fun e w' => ∃gn gk gd,e = .returned (frmV f (.slice (some ⟨gn,0,none⟩) f.names.length (f.names.length+2)) (.slice (some ⟨gk,0,none⟩) f.kids.len (f.kids.len+1)) (.slice (some ⟨gd,0,none⟩) f.dat.s.len (f.dat.s.len+1)))∧LentO w' w.heap.size w'.heap.size f (.slice (some ⟨gn,0,none⟩) f.names.length (f.names.length+2)) (.slice (some ⟨gk,0,none⟩) f.kids.len (f.kids.len+1)) (.slice (some ⟨gd,0,none⟩) f.dat.s.len (f.dat.s.len+1))∧Below w.heap.size w w'
theorem LentO.kept {w w' : World} {lo hi:Nat} {f:Frm} {nv kv dv:Value} (h:LentO w lo hi f nv kv dv) (hk:∀g,lo≤g→g<hi→w'.heap[g]?=w.heap[g]?):LentO w' lo hi f nv kv dv:=by
 obtain ⟨m1,m2,h1,h2,h3⟩:=h
 have:=h1.le
 have:=h2.le
 have:=h3.le
 exact ⟨m1,m2,h1.kept fun g h4 h5=>hk g h4 (by omega),h2.kept fun g h4 h5=>hk g (by omega) (by omega),h3.kept fun g h4 h5=>hk g (by omega) h5⟩
theorem LentO.mono {w:World} {lo lo' hi hi' : Nat} {f:Frm} {nv kv dv:Value} (h:LentO w lo hi f nv kv dv) (hb:lo' ≤ lo) (hh:hi≤hi'):LentO w lo' hi' f nv kv dv:=by
 obtain ⟨m1,m2,h1,h2,h3⟩:=h
 exact ⟨m1,m2,h1.mono hb (Nat.le_refl _),h2,h3.wide hh⟩
theorem LentO.rfo {w:World} {lo hi:Nat} {f:Frm} {nv kv dv:Value} (h:LentO w lo hi f nv kv dv):∃gn gk gd,nv = .slice (some ⟨gn,0,none⟩) f.names.length (f.names.length+2)∧kv = .slice (some ⟨gk,0,none⟩) f.kids.len (f.kids.len+1)∧dv = .slice (some ⟨gd,0,none⟩) f.dat.s.len (f.dat.s.len+1)∧RFo w f (some ⟨gn,0,none⟩) (some ⟨gk,0,none⟩) (some ⟨gd,0,none⟩)∧NcS w (some ⟨gk,0,none⟩) f.kids:=by
 obtain ⟨m1,m2,h1,h2,h3⟩:=h
 obtain ⟨gn,rfl,hn,_⟩:=h1.rn
 obtain ⟨gk,rfl,hk,hc,_⟩:=h2.rs
 obtain ⟨gd,rfl,hd,_⟩:=h3.rs
 exact ⟨gn,gk,gd,rfl,rfl,rfl,⟨hn,hk,hd⟩,hc⟩
structure WHF (w wr:World) (f:Frm) (nv kv dv:Value):Prop where
 b:Below w.heap.size w wr
 q0:wr.heap[w.heap.size]?=some (.cells #[.int .u8 f.kind,S f.text,nv,kv, .int .u8 f.dat.k, .int .i64 f.dat.n,S f.dat.t,dv, .bool f.dat.d] 36 (0,0))
 q1:wr.heap[w.heap.size+1]?=some (.cells #[.int .u8 0, .string ⟨#[]⟩, .slice none 0 0, .slice none 0 0, .int .u8 0, .int .i64 0, .string ⟨#[]⟩, .slice none 0 0, .bool false] 36 (0,0))
 lt:w.heap.size+2≤wr.heap.size
theorem WHF.new (w:World) (f:Frm) (nv kv dv:Value):WHF w ((w.alloc (Z9 f nv kv dv)).alloc F9) f nv kv dv:=by
 refine ⟨((Below.refl _ w).alloc (Nat.le_refl w.heap.size) _).alloc (by simp) F9,(Below.heap_alloc _ _ _ (by simp)).trans (World.alloc_heap_new w _),?_,by simp⟩
 have:=World.alloc_heap_new (w.alloc (Z9 f nv kv dv)) F9
 rwa [World.size_alloc] at this
theorem lentO_of (f:Frm) (h:LFs f.kids):LFo f:=by
 intro nr kr dr nc kc dc w hF hO hR
 have HH0:=WHF.new w f (.slice nr f.names.length nc) (.slice kr f.kids.len kc) (.slice dr f.dat.s.len dc)
 have HK:Hid (LFs f.kids):=h
 have HKO:Hid f.kids.oks:=hO
 have HKL:Hid (f.kids.len≤1000000):=hF.kl
 have HNL:Hid (f.names.length≤1000000):=hF.nl
 have HDL:Hid (f.dat.s.size≤1000000):=hF.d.size
 have HDN:Hid (f.dat.s.len≤1000000):=hF.d.len
 have HRW:Hid (∀wx,Below w.heap.size w wx→RFo wx f nr kr dr):=fun wx hb=>hR.below hb
 clear h hO hF hR
 go_enter Tryz.func26,Tryz.ntmps26
 go_upto_region 1 with fail
 generalize (w.alloc (Z9 f (.slice nr f.names.length nc) (.slice kr f.kids.len kc) (.slice dr f.dat.s.len dc))).alloc F9=W at *
 have HH:Hid (WHF w W f (.slice nr f.names.length nc) (.slice kr f.kids.len kc) (.slice dr f.dat.s.len dc)):=HH0
 obtain ⟨zz,_⟩:=cells9 HH0.q0
 obtain ⟨z0,z1,z2,z3,z4,z5,z6,z7,z8⟩:=zz
 have hlt:=HH0.lt
 have hmx:Tryz.prog.follows .mixedOrders=true:=by kernel_rfl
 have mk:∀wx,Below W.heap.size W wx→(wx.cell? ⟨w.heap.size,0,none⟩=some (.int .u8 f.kind)∧wx.cell? ⟨w.heap.size,1,none⟩=some (S f.text)∧wx.cell? ⟨w.heap.size,2,none⟩=some (.slice nr f.names.length nc)∧wx.cell? ⟨w.heap.size,3,none⟩=some (.slice kr f.kids.len kc)∧wx.cell? ⟨w.heap.size,4,none⟩=some (.int .u8 f.dat.k)∧wx.cell? ⟨w.heap.size,5,none⟩=some (.int .i64 f.dat.n)∧wx.cell? ⟨w.heap.size,6,none⟩=some (S f.dat.t)∧wx.cell? ⟨w.heap.size,7,none⟩=some (.slice dr f.dat.s.len dc)∧wx.cell? ⟨w.heap.size,8,none⟩=some (.bool f.dat.d)):=fun wx hb=>⟨below_cells hb _ _ z0,below_cells hb _ _ z1,below_cells hb _ _ z2,below_cells hb _ _ z3,below_cells hb _ _ z4,below_cells hb _ _ z5,below_cells hb _ _ z6,below_cells hb _ _ z7,below_cells hb _ _ z8⟩
 have HTC:Hid (∀wx,Below W.heap.size W wx→Calls Tryz.prog 80 #[.slice nr f.names.length nc] wx fun e w' => ∃gn,e = .returned (.slice (some ⟨gn,0,none⟩) f.names.length (f.names.length+2))∧LentT w' wx.heap.size w'.heap.size (.slice (some ⟨gn,0,none⟩) f.names.length (f.names.length+2)) f.names∧Below wx.heap.size wx w'):=fun wx hb=>(lentT_any f.names nr nc wx HNL.out (HRW.out _ (HH.out.b.trans (hb.mono (by omega)))).n.rx).mono (by
  rintro e w1 ⟨v1,rfl,hT1,hb1⟩
  obtain ⟨gn,rfl,_⟩:=hT1.rn
  exact ⟨gn,rfl,hT1,hb1⟩)
 have HFC:Hid (∀wx,Below W.heap.size W wx→Calls Tryz.prog 81 #[.slice kr f.kids.len kc] wx fun e w' => ∃gk,e = .returned (.slice (some ⟨gk,0,none⟩) f.kids.len (f.kids.len+1))∧LentF w' wx.heap.size w'.heap.size (.slice (some ⟨gk,0,none⟩) f.kids.len (f.kids.len+1)) f.kids∧Below wx.heap.size wx w'):=fun wx hb=>(HK.out kr kc wx HKO.out HKL.out (HRW.out _ (HH.out.b.trans (hb.mono (by omega)))).k).mono (by
  rintro e w1 ⟨v1,rfl,hT1,hb1⟩
  obtain ⟨gn,rfl,_⟩:=hT1.rs
  exact ⟨gn,rfl,hT1,hb1⟩)
 have HDC:Hid (∀wx,Below W.heap.size W wx→Calls Tryz.prog 14 #[.agg #[.int .u8 f.dat.k, .int .i64 f.dat.n,S f.dat.t, .slice dr f.dat.s.len dc, .bool f.dat.d]] wx fun e w' => ∃gd,e = .returned (.agg #[.int .u8 f.dat.k, .int .i64 f.dat.n,S f.dat.t, .slice (some ⟨gd,0,none⟩) f.dat.s.len (f.dat.s.len+1), .bool f.dat.d])∧LentI w' wx.heap.size w'.heap.size (.slice (some ⟨gd,0,none⟩) f.dat.s.len (f.dat.s.len+1)) f.dat.s∧Below wx.heap.size wx w'):=fun wx hb=>(lentD_of (lent_all f.dat.s.size) f.dat.k f.dat.n f.dat.t f.dat.s f.dat.d dr dc wx (Nat.le_refl _) HDL.out HDN.out (HRW.out _ (HH.out.b.trans (hb.mono (by omega)))).d).mono (by
  rintro e w1 ⟨v1,rfl,hT1,hb1⟩
  obtain ⟨gn,rfl,_⟩:=hT1.rs
  exact ⟨gn,rfl,hT1,hb1⟩)
 clear HH0
 first
 | go_region_held3 (fun wx=>wx.cell? ⟨w.heap.size,0,none⟩=some (.int .u8 f.kind)∧wx.cell? ⟨w.heap.size,1,none⟩=some (S f.text)∧wx.cell? ⟨w.heap.size,2,none⟩=some (.slice nr f.names.length nc)∧wx.cell? ⟨w.heap.size,3,none⟩=some (.slice kr f.kids.len kc)∧wx.cell? ⟨w.heap.size,4,none⟩=some (.int .u8 f.dat.k)∧wx.cell? ⟨w.heap.size,5,none⟩=some (.int .i64 f.dat.n)∧wx.cell? ⟨w.heap.size,6,none⟩=some (S f.dat.t)∧wx.cell? ⟨w.heap.size,7,none⟩=some (.slice dr f.dat.s.len dc)∧wx.cell? ⟨w.heap.size,8,none⟩=some (.bool f.dat.d))
   (first|(go_keep;done)|exact mk _ hB3|exact mk _ hB2|exact mk _ hB1)
   (first
    | (go_at_call 80;refine (HTC.out _ (Below.refl _ W).drew).mono ?_;rintro e w1 ⟨gn,rfl,hT1,hb1⟩;have hB1:Below W.heap.size W w1:=(Below.refl _ W).drew.trans hb1)
    | (go_at_call 81;refine (HFC.out _ hB1).mono ?_;rintro e w2 ⟨gk,rfl,hF2,hb2⟩;have hB2:Below W.heap.size W w2:=hB1.trans (hb2.mono hB1.size))
    | (go_at_call 14;refine (HDC.out _ hB2).mono ?_;rintro e w3 ⟨gd,rfl,hI3,hb3⟩;have hB3:Below W.heap.size W w3:=hB2.trans (hb3.mono hB2.size);obtain ⟨⟨y0,y1,y2,y3,y4,y5,y6,y7,y8⟩,yf⟩:=cells9 ((hB3.block (w.heap.size+1) hlt).trans HH.out.q1);have f0:=yf 0;have f1:=yf 1;have f2:=yf 2;have f3:=yf 3;have f4:=yf 4;have f5:=yf 5;have f6:=yf 6;have f7:=yf 7;have f8:=yf 8))
 | fail
 have q3:=(hB3.block (w.heap.size+1) (by omega)).trans HH.out.q1
 have HL:Hid (LentO w3 (w.heap.size+2) w3.heap.size f (.slice (some ⟨gn,0,none⟩) f.names.length (f.names.length+2)) (.slice (some ⟨gk,0,none⟩) f.kids.len (f.kids.len+1)) (.slice (some ⟨gd,0,none⟩) f.dat.s.len (f.dat.s.len+1))):=by
  refine ⟨w1.heap.size,w2.heap.size,?_,hF2.kept (fun g _ h2=>hb3.block g h2),hI3⟩
  refine (hT1.kept (fun g _ h2=>(hb3.block g (by have:=hb2.size;omega)).trans (hb2.block g h2))).mono ?_ (Nat.le_refl _)
  exact hlt
 have HB3:Hid (Below w.heap.size w w3):=HH.out.b.trans (hB3.mono (by omega))
 have HQ3:Hid _:=q3
 clear mk q3 hT1 hF2 hI3 hb1 hb2 hb3 hB1 hB2 hB3 z0 z1 z2 z3 z4 z5 z6 z7 z8
 go_wp2_with fail
 refine bodyPost_nine rfl rfl rfl HQ3.out fun W9 o9=>?_
 refine ⟨gn,gk,gd,rfl,(HL.out.kept fun g h1 _=>o9.other g (by omega)).mono (by omega) (Nat.le_of_eq o9.size.symm),?_⟩
 exact HB3.out.trans ⟨o9.os,o9.tape,o9.output,Nat.le_of_eq o9.size.symm,fun g h1=>o9.other g (by omega)⟩
theorem lentFs_of (f:Fm) (hall:EachF LFo f):LFs f:=by
 intro ra ca w hO hm hR
 obtain ⟨i0,hi0,hz0,hz1,hz2⟩:=info_parts infoFrm
 obtain ⟨b,o,hab,hRd⟩:=hR
 have HAll:Hid (EachF LFo f):=hall
 have HO1:Hid f.oks:=hO
 have HRd:Hid (RdF w f b o):=hRd
 have Hra:Hid (f.len≠0→ra=some ⟨b,o,none⟩):=fun h=>hab.resolve_left h
 clear hall hRd hab hO
 go_enter Tryz.func81,Tryz.ntmps81
 go_wp2_with (at_make;refine wpList_make_own _ rfl _ _ 34 rfl w.heap.size 36 i0 (.agg #[.int .u8 0, .string ⟨#[]⟩, .slice none 0 0, .slice none 0 0, .int .u8 0, .int .i64 0, .string ⟨#[]⟩, .slice none 0 0, .bool false]) 9 Tryz.underlying34 hi0 hz0 hz1 .i64 .i64 _ (f.len+1) rfl rfl (by first|rfl|omega) (by rw [hz2];omega) (by unfold maxLen;omega) (Nat.le_refl _) ?_;intro w0 hown0 hgrow0)
 have HB0:Hid (Below w.heap.size w w0):=(Below.refl _ w).grown hgrow0 (Nat.le_refl _) (fun k hk=>by cases hk)
 have HO0:Hid _:=hown0
 clear hown0 hgrow0
 go_loopw [3,4] (fun x i wr=>∃(j:Nat) (q fi:Fm) (cs:List Value),x = .slice (some ⟨w.heap.size,0,none⟩) j (f.len+1)∧i = .int .i64 j∧fi.len+j=f.len∧Hid (q.app fi=f)∧Hid (q.len=j)∧Hid (RdF w fi b (o+j*9))∧Hid (EachF LFo fi)∧Hid fi.oks∧Hid (wr.ownsRow w.heap.size 36 9 (.slice (some ⟨w.heap.size,0,none⟩) j (f.len+1)) j cs)∧Hid (CF wr (w.heap.size+1) wr.heap.size q cs)∧Hid (Below w.heap.size w wr)) (fun _ i _=>f.len-(intOf i).toNat)
 case atStart=>exact ⟨0, .nil,f,[],rfl,rfl,by simp,rfl,rfl,by simpa using HRd,HAll,HO1,HO0,⟨rfl,(World.ownsRow.lt HO0.out w.heap.size rfl).2⟩,HB0⟩
 case round =>
  obtain ⟨j,q,fi,cs,rfl,rfl,hj,HQ,HL,HF,HAi,HOi,HO,HC,HBj⟩:=hrel
  have lt0:=(HO.out.lt w.heap.size rfl).2
  cases fi with
  | nil =>
   have hj' : j=f.len:=by simpa [Fm.len] using hj
   subst hj'
   have hjl:¬ ((f.len:Int)<(f.len:Int)):=by omega
   have hq:q=f:=by have:=HQ.out;rwa [Fm.app_nil] at this
   have Hq:Hid _:=hq
   clear hj hq
   go_wp2_with (at_builtin;refine stop_of ?_)
   unfold Hid
   refine wpList_append_fits _ rfl _ _ 34 rfl w.heap.size 36 i0 9 Tryz.underlying34 hi0 hz1 w.heap.size f.len (f.len+1) cs rfl (HO.out.alloc _) ⟨_,0,none⟩ 1 1 sentF rfl rfl (fun j' u hu=>by rw [addr_add];exact new_cell wr _ _ j' u (by rw [List.getElem?_toArray];exact hu)) (by decide) (Nat.le_refl _) ?_
   intro w2 hown2 hgr2
   have HB2:Hid (Below w.heap.size w w2):=HBj.out.trans (((Below.refl _ wr).alloc (Nat.le_of_lt lt0) _).trans (grown_below hgr2 (Nat.le_refl _) (by simp;omega)))
   have HLn:Hid (LentF w2 w.heap.size w2.heap.size (.slice (some ⟨w.heap.size,0,none⟩) f.len (f.len+1)) f):=by
    have hz2:=hgr2.size
    rw [World.size_alloc] at hz2
    refine ⟨w.heap.size,cs,rfl,⟨Nat.le_refl _,by omega⟩,hown2,CF.wide ?_ (show wr.heap.size≤_ by omega)⟩
    have hc:=HC.out
    rw [Hq.out] at hc
    refine hc.kept fun g h1 h2=>?_
    rw [grown_kept hgr2 g h1 (by simp;omega)]
    exact Below.heap_alloc _ _ _ h2
   clear hown2 hgr2
   go_wp2
   go_ret
   exact ⟨_,rfl,HLn.out,HB2.out⟩
  | cons k t ns ks dk dn dt ds dd r =>
   simp only [Fm.len] at hj
   have i1:(j:Int)<(f.len:Int):=by omega
   obtain ⟨hb0,nr2,nc2,kr2,kc2,dr2,dc2,⟨d0,d1,d2,d3,d4,d5,d6,d7,d8⟩,hrf,hr,hkc2⟩:=rdf_cons2 HF.out
   have bel:=HBj.out
   have e0:=below_cells bel _ _ d0
   have e1:=below_cells bel _ _ d1
   have e2:=below_cells bel _ _ d2
   have e3:=below_cells bel _ _ d3
   have e4:=below_cells bel _ _ d4
   have e5:=below_cells bel _ _ d5
   have e6:=below_cells bel _ _ d6
   have e7:=below_cells bel _ _ d7
   have e8:=below_cells bel _ _ d8
   have Hr:Hid (RdF w r b (o+j*9+9)):=hr
   have HAr2:Hid (EachF LFo r):=HAi.out.2
   have HOr2:Hid r.oks:=HOi.out.2.2
   have HCC:Hid (Calls Tryz.prog 26 #[frmV ⟨k,t,ns,ks,⟨dk,dn,dt,ds,dd⟩⟩ (.slice nr2 ns.length nc2) (.slice kr2 ks.len kc2) (.slice dr2 ds.len dc2)] wr fun e w' => ∃gn gk gd,e = .returned (frmV ⟨k,t,ns,ks,⟨dk,dn,dt,ds,dd⟩⟩ (.slice (some ⟨gn,0,none⟩) ns.length (ns.length+2)) (.slice (some ⟨gk,0,none⟩) ks.len (ks.len+1)) (.slice (some ⟨gd,0,none⟩) ds.len (ds.len+1)))∧LentO w' wr.heap.size w'.heap.size ⟨k,t,ns,ks,⟨dk,dn,dt,ds,dd⟩⟩ (.slice (some ⟨gn,0,none⟩) ns.length (ns.length+2)) (.slice (some ⟨gk,0,none⟩) ks.len (ks.len+1)) (.slice (some ⟨gd,0,none⟩) ds.len (ds.len+1))∧Below wr.heap.size wr w'):=HAi.out.1 nr2 kr2 dr2 nc2 kc2 dc2 wr HOi.out.1 HOi.out.2.1 (hrf.below bel)
   have hra:=Hra.out (by omega)
   subst hra
   clear d0 d1 d2 d3 d4 d5 d6 d7 d8 hrf hr hkc2 bel hb0
   go_wp2_with fail
   refine HCC.out.mono ?_
   rintro e w1 ⟨gn,gk,gd,rfl,hL1,hb1⟩
   obtain ⟨m1,m2,hT,⟨gk', kcs,hgv,hgg,hok,hck⟩,hI⟩:=hL1
   cases hgv
   have HB1:Hid (Below w.heap.size w w1):=HBj.out.trans (hb1.mono HBj.out.size)
   have HO1:Hid (w1.ownsRow w.heap.size 36 9 (.slice (some ⟨w.heap.size,0,none⟩) j (f.len+1)) j cs):=own_same HO.out (fun g hg=>hb1.block g (HO.out.lt g hg).2)
   have HC1:Hid (CF w1 (w.heap.size+1) w1.heap.size (q.app (.cons k t ns ks dk dn dt ds dd .nil)) (cs++[.int .u8 k,S t, .slice (some ⟨gn,0,none⟩) ns.length (ns.length+2), .slice (some ⟨gk,0,none⟩) ks.len (ks.len+1), .int .u8 dk, .int .i64 dn,S dt, .slice (some ⟨gd,0,none⟩) ds.len (ds.len+1), .bool dd])) :=
    (HC.out.kept fun g _ h2=>hb1.block g h2).app ⟨_,gk,_,m1,m2,w1.heap.size,kcs,[],rfl,hT,⟨hgg,hok,hck⟩,hI,rfl,Nat.le_refl _⟩
   have l1:=Nat.lt_of_lt_of_le lt0 hb1.size
   clear hb1 e0 e1 e2 e3 e4 e5 e6 e7 e8 hT hgg hok hck hI HCC
   go_wp2_with (at_builtin;refine stop_of ?_)
   unfold Hid
   refine wpList_append_fits _ rfl _ _ 34 rfl w.heap.size 36 i0 9 Tryz.underlying34 hi0 hz1 w.heap.size j (f.len+1) cs rfl (HO1.out.alloc _) ⟨_,0,none⟩ 1 1 [.int .u8 k,S t, .slice (some ⟨gn,0,none⟩) ns.length (ns.length+2), .slice (some ⟨gk,0,none⟩) ks.len (ks.len+1), .int .u8 dk, .int .i64 dn,S dt, .slice (some ⟨gd,0,none⟩) ds.len (ds.len+1), .bool dd] rfl rfl (fun j' u hu=>by rw [addr_add];exact new_cell w1 _ _ j' u (by rw [List.getElem?_toArray];exact hu)) (fun u hu=>by simp only [List.mem_cons,List.not_mem_nil,or_false] at hu;rcases hu with rfl|rfl|rfl|rfl|rfl|rfl|rfl|rfl|rfl<;>rfl) (by omega) ?_
   intro w2 hown2 hgr2
   have HB2:Hid (Below w.heap.size w w2):=HB1.out.trans (((Below.refl _ w1).alloc (Nat.le_of_lt l1) _).trans (grown_below hgr2 (Nat.le_refl _) (by simp;omega)))
   have HC2:Hid (CF w2 (w.heap.size+1) w2.heap.size (q.app (.cons k t ns ks dk dn dt ds dd .nil)) (cs++[.int .u8 k,S t, .slice (some ⟨gn,0,none⟩) ns.length (ns.length+2), .slice (some ⟨gk,0,none⟩) ks.len (ks.len+1), .int .u8 dk, .int .i64 dn,S dt, .slice (some ⟨gd,0,none⟩) ds.len (ds.len+1), .bool dd])) :=
    (HC1.out.kept fun g h1 h2=>(grown_kept hgr2 g h1 (by simp;omega)).trans (Below.heap_alloc _ _ _ h2)).wide (by have:=hgr2.size;rw [World.size_alloc] at this;omega)
   have HO2:Hid _:=hown2
   clear hown2 hgr2
   go_wp2_with fail
   go_roundw
   case rel=>exact ⟨j+1,q.app (.cons k t ns ks dk dn dt ds dd .nil),r,_,rfl,by go_num,by omega,by show _=_;rw [Fm.app_assoc];exact HQ.out,by show _=_;rw [Fm.len_app,HL.out];rfl,by rw [show o+(j+1)*9=o+j*9+9 by omega];exact Hr,HAr2,HOr2,HO2,HC2,HB2⟩
   case measure=>simp [intOf];omega
theorem lfo_all:∀g:Fm,EachF LFo g
 | .nil=>trivial
 | .cons _ _ _ ks _ _ _ _ _ r=>⟨lentO_of _ (lentFs_of ks (lfo_all ks)),lfo_all r⟩
theorem lentForm_any (f:Frm):LFo f:=lentO_of f (lentFs_of f.kids (lfo_all f.kids))
theorem CI.below {w w' : World} (hb:Below w.heap.size w w'):∀{lo hi:Nat} {f:Fo} {cs:List Value},CI w lo hi f cs→CI w' lo hi f cs
 | _,_, .nil,_,h=>h
 | _,_, .cons _ _ _ _ _ _,_,⟨g,mid,kcs,rest,hc,h0,ho,hs,hr⟩=>⟨g,mid,kcs,rest,hc,h0,own_same ho (fun b hb' => hb.block b (ho.lt b hb').2),CI.below hb hs,CI.below hb hr⟩
theorem LentI.below {w w' : World} {lo hi:Nat} {v:Value} {f:Fo} (h:LentI w lo hi v f) (hb:Below w.heap.size w w'):LentI w' lo hi v f:=by
 obtain ⟨g,cs,hv,h0,ho,hc⟩:=h
 exact ⟨g,cs,hv,h0,own_same ho (fun b hb' => hb.block b (ho.lt b hb').2),hc.below hb⟩
theorem LentT.below {w w' : World} {lo hi:Nat} {v:Value} {l:List (List UInt8)} (h:LentT w lo hi v l) (hb:Below w.heap.size w w'):LentT w' lo hi v l:=by
 obtain ⟨g,hv,h0,ho⟩:=h
 exact ⟨g,hv,h0,own_same ho (fun b hb' => hb.block b (ho.lt b hb').2)⟩
theorem CF.below {w w' : World} (hb:Below w.heap.size w w'):∀{lo hi:Nat} {f:Fm} {cs:List Value},CF w lo hi f cs→CF w' lo hi f cs
 | _,_, .nil,_,h=>h
 | _,_, .cons _ _ _ _ _ _ _ _ _ _,_,⟨nv,gk,dv,m1,m2,mid,kcs,rest,hc,h1,⟨h2,ho,hs⟩,h4,hr⟩=>⟨nv,gk,dv,m1,m2,mid,kcs,rest,hc,h1.below hb,⟨h2,own_same ho (fun b hb' => hb.block b (ho.lt b hb').2),CF.below hb hs⟩,h4.below hb,CF.below hb hr⟩
theorem LentF.below {w w' : World} {lo hi:Nat} {v:Value} {f:Fm} (h:LentF w lo hi v f) (hb:Below w.heap.size w w'):LentF w' lo hi v f:=by
 obtain ⟨g,cs,hv,h0,ho,hc⟩:=h
 exact ⟨g,cs,hv,h0,own_same ho (fun b hb' => hb.block b (ho.lt b hb').2),hc.below hb⟩
theorem LentO.below {w w' : World} {lo hi:Nat} {f:Frm} {nv kv dv:Value} (h:LentO w lo hi f nv kv dv) (hb:Below w.heap.size w w'):LentO w' lo hi f nv kv dv:=by
 obtain ⟨m1,m2,h1,h2,h3⟩:=h
 exact ⟨m1,m2,h1.below hb,h2.below hb,h3.below hb⟩
def WholeC (N:Nat):Prop:=∀(f:Fo) (g lo hi:Nat) (ra:Option Addr) (ca:Nat) (w:World),f.size≤N→f.size≤1000000→LentI w lo hi (.slice (some ⟨g,0,none⟩) f.len (f.len+1)) f→RS w ra f →
 Calls Tryz.prog 55 #[.slice (some ⟨g,0,none⟩) f.len (f.len+1), .slice ra f.len ca] w fun e w' => e = .returned (.bool true)∧Below w.heap.size w w'
def WholeD (N:Nat):Prop:=∀(k n:Int) (t:List UInt8) (s:Fo) (d:Bool) (g lo hi:Nat) (rk:Option Addr) (ck:Nat) (w:World),s.size≤N→s.size≤1000000→LentI w lo hi (.slice (some ⟨g,0,none⟩) s.len (s.len+1)) s→RS w rk s →
 Calls Tryz.prog 20 #[.agg #[.int .u8 k, .int .i64 n,S t, .slice (some ⟨g,0,none⟩) s.len (s.len+1), .bool d], .agg #[.int .u8 k, .int .i64 n,S t, .slice rk s.len ck, .bool d]] w fun e w' => e = .returned (.bool true)∧Below w.heap.size w w'
theorem wholeD_of {N:Nat} (h:WholeC N):WholeD N:=by
 intro k n t s d g lo hi rk ck w hN hm hL hR
 have HE:Hid (WholeC N):=h
 have HL:Hid (LentI w lo hi (.slice (some ⟨g,0,none⟩) s.len (s.len+1)) s):=hL
 have HR:Hid (RS w rk s):=hR
 clear h hL hR
 go_enter Tryz.func20,Tryz.ntmps20
 go_wp2_with fail
 refine (HE.out s g lo hi rk ck _ hN hm (HL.out.below (((Below.refl _ w).alloc (Nat.le_refl _) _).alloc (by simp) _)) (HR.out.below (((Below.refl _ w).alloc (Nat.le_refl _) _).alloc (by simp) _))).mono ?_
 rintro e w1 ⟨rfl,hb1⟩
 go_wp2
 go_ret
 exact ⟨rfl,((((Below.refl _ w).alloc (Nat.le_refl _) _).alloc (by simp) _)).trans (hb1.mono (by simp;omega))⟩
theorem whole_of {N:Nat} (h:∀M,M<N→WholeD M):WholeC N:=by
 intro f g lo hi ra ca w hN hm hL hR
 have HS:Hid (∀M,M<N→WholeD M):=h
 have hm1:=Fo.len_size f
 obtain ⟨s0,s1,s2,s3,s4⟩:=hL.sent
 obtain ⟨g', cs,hv,hgl0,ho,hc⟩:=hL
 cases hv
 obtain ⟨_,hgl,_,hmx1⟩:=own_max ho
 have HX:Hid (∀j u,cs[j]?=some u→w.cell? ⟨g,0*5+j,none⟩=some u):=fun j u hj=>by
  rw [Nat.zero_mul,Nat.zero_add]
  exact own_cell ho j u (by rw [List.getElem?_append_left (List.getElem?_eq_some_iff.1 hj).1];exact hj)
 have HCL:Hid (CI w (g+1) hi f cs):=hc
 obtain ⟨b,o,hab,hRd⟩:=hR
 have HRd:Hid (Rd w b o f):=hRd
 have Hra:Hid (f.len≠0→ra=some ⟨b,o,none⟩):=fun h=>hab.resolve_left h
 have i3:(f.len:Int)<(f.len:Int)+1:=by omega
 have i4:(f.len:Int)+1≤((f.len+1:Nat):Int):=by omega
 clear h ho hc hRd hab hgl0
 go_enter Tryz.func55,Tryz.ntmps55
 go_wp2
 clear s0 s1 s2 s3 s4
 go_loopw [6] (fun i wr=>∃(j:Nat) (fi:Fo) (ci:List Value) (lo1:Nat),i = .int .i64 j∧fi.len+j=f.len∧fi.size≤f.size∧Hid (∀j' u,ci[j']?=some u→w.cell? ⟨g,j*5+j', none⟩=some u)∧Hid (CI w lo1 hi fi ci)∧Hid (Rd w b (o+j*5) fi)∧Hid (Below w.heap.size w wr)) (fun i _=>f.len-(intOf i).toNat)
 case atStart=>exact ⟨0,f,cs,g+1,rfl,by simp,Nat.le_refl _,HX,HCL,by simpa using HRd,Below.refl _ _⟩
 case round =>
  obtain ⟨j,fi,ci,lo1,rfl,hj,hsz,HXi,HCi,HF,HB⟩:=hrel
  cases fi with
  | nil =>
   have hj' : j=f.len:=by simpa [Fo.len] using hj
   have HJ:Hid _:=hj'
   have hjl:¬ ((j:Int)<(f.len:Int)):=by omega
   clear hj hj'
   go_wp2
   go_ret
   exact ⟨rfl,HB.out⟩
  | cons k n t s d r =>
   obtain ⟨⟨g0,g1,g2,g3,g4,g5⟩,⟨rk,ck,bk,ok,gk,gz,gs⟩,gr⟩:=HF.out
   obtain ⟨gx,mid,kcs,rest,hcs,hgx,hox,hcx,hcr⟩:=HCi.out
   have hx:=HXi.out
   rw [hcs] at hx
   simp only [Fo.len] at hj
   simp only [Fo.size] at hsz
   have hlt:j<f.len:=by omega
   have hra:=Hra.out (by omega)
   subst hra
   have i1:(j:Int)<(f.len:Int):=by omega
   have i0:(0:Int)≤(j:Int):=by omega
   have e1:∀o,wr.cell? ⟨b,o,none⟩=w.cell? ⟨b,o,none⟩:=fun o=>HB.out.cell (p:=⟨b,o,none⟩) g0
   have e2:∀o,wr.cell? ⟨g,o,none⟩=w.cell? ⟨g,o,none⟩:=fun o=>HB.out.cell (p:=⟨g,o,none⟩) hgl
   have f1:=(e2 _).trans (hx 0 _ rfl)
   have f2:=(e2 _).trans (hx 1 _ rfl)
   have f3:=(e2 _).trans (hx 2 _ rfl)
   have fk:=(e2 _).trans (hx 3 _ rfl)
   have f4:=(e2 _).trans (hx 4 _ rfl)
   rw [Nat.add_zero] at f1
   have h1:=(e1 _).trans g1
   have h2:=(e1 _).trans g2
   have h3:=(e1 _).trans g3
   have h4:=(e1 _).trans g4
   have hk:=(e1 _).trans gk
   have h0:b<wr.heap.size:=Nat.lt_of_lt_of_le g0 HB.out.size
   have h0' : g<wr.heap.size:=Nat.lt_of_lt_of_le hgl HB.out.size
   have HRk:Hid (RS wr rk s):=RS.below ⟨bk,ok,gz,gs⟩ HB.out
   have HLk:Hid (LentI wr lo1 mid (.slice (some ⟨gx,0,none⟩) s.len (s.len+1)) s):=LentI.below ⟨gx,kcs,rfl,hgx,hox,hcx⟩ HB.out
   have Hr:Hid _:=gr
   have Hcr:Hid _:=hcr
   have Hxr:Hid (∀j' u,rest[j']?=some u→w.cell? ⟨g,(j+1)*5+j', none⟩=some u):=fun j' u hj' => by
    have:=hx (j' + 5) u (by simpa using hj')
    rwa [show j*5+(j' + 5)=(j+1)*5+j' by omega] at this
   have hls:s.size≤1000000:=by omega
   have hmx:Tryz.prog.follows .mixedOrders=true:=by kernel_rfl
   clear e1 e2 g1 g2 g3 g4 gk gz gs gr hx hcs hox hcx hcr hgx
   go_wp2_with fail
   first
   | go_region_held3 (fun wx=>((wx.cell? ⟨g,j*5,none⟩=some (.int .u8 k)∧wx.cell? ⟨g,j*5+1,none⟩=some (.int .i64 n)∧wx.cell? ⟨g,j*5+1+1,none⟩=some (S t)∧wx.cell? ⟨g,j*5+1+1+1,none⟩=some (.slice (some ⟨gx,0,none⟩) s.len (s.len+1))∧wx.cell? ⟨g,j*5+1+1+1+1,none⟩=some (.bool d))∧g<wx.heap.size)∧(wx.cell? ⟨b,o+j*5,none⟩=some (.int .u8 k)∧wx.cell? ⟨b,o+j*5+1,none⟩=some (.int .i64 n)∧wx.cell? ⟨b,o+j*5+1+1,none⟩=some (S t)∧wx.cell? ⟨b,o+j*5+1+1+1,none⟩=some (.slice rk s.len ck)∧wx.cell? ⟨b,o+j*5+1+1+1+1,none⟩=some (.bool d))∧b<wx.heap.size) (first|go_keep|exact keepT hb1 (by go_keep))
     (first|(go_at_call 20;refine (HS.out s.size (by omega) k n t s d gx lo1 mid rk ck _ (Nat.le_refl _) hls (HLk.out.below (Below.refl _ _).drew) (HRk.out.below (Below.refl _ _).drew)).mono ?_;rintro e w1 ⟨rfl,hb1⟩))
   | fail
   have HB1:Hid (Below w.heap.size w w1):=HB.out.trans (((Below.refl _ wr).drew.trans hb1).mono HB.out.size)
   clear hb1 h1 h2 h3 h4 hk f1 f2 f3 f4 fk
   go_wp2
   go_roundw
   case rel=>exact ⟨j+1,r,rest,mid,by go_num,by omega,by omega,Hxr,Hcr,by rw [show o+(j+1)*5=o+j*5+5 by omega];exact Hr,HB1⟩
   case measure=>simp [intOf];omega
theorem whole_all:∀N,WholeC N:=fun N=>by
 induction N using Nat.strongRecOn with
 | _ N ih=>exact whole_of (fun M hM=>wholeD_of (ih M hM))
theorem wholeT_any (l:List (List UInt8)) (lo hi:Nat) (g:Nat) (ra:Option Addr) (ca:Nat) (w:World) (hm:l.length≤1000000) (hL:LentT w lo hi (.slice (some ⟨g,0,none⟩) l.length (l.length+2)) l) (hR:RX S w ra l) :
  Calls Tryz.prog 87 #[.slice (some ⟨g,0,none⟩) l.length (l.length+2), .slice ra l.length ca] w fun e w' => e = .returned (.bool true)∧Below w.heap.size w w' := by
 obtain ⟨g', hv,hn,_,hlt,c0,c1⟩:=hL.rn
 cases hv
 have HN:Hid (RX S w (some ⟨g,0,none⟩) l):=hn.rx
 have HC:Hid (Calls Tryz.prog 31 #[.slice (some ⟨g,0,none⟩) l.length (l.length+2), .slice ra l.length ca] w fun e w' => e = .returned (.bool true)∧Below w.heap.size w w'):=by
  have:=sameX_any l l (some ⟨g,0,none⟩) ra (l.length+2) ca w (by unfold maxLen;omega) (by unfold maxLen;omega) hn.rx hR
  rw [decide_eq_true rfl] at this
  exact this
 clear hL hR hn
 generalize l.length=n at *
 have i1:¬ ((n+2:Nat):Int)<(n:Int)+2:=by omega
 have i2:(n:Int)+2≤((n+2:Nat):Int):=by omega
 have i3:(n:Int)<(n:Int)+2:=by omega
 have i4:(n:Int)+1<(n:Int)+2:=by omega
 go_enter Tryz.func87,Tryz.ntmps87
 go_wp2_with fail
 refine HC.out.mono ?_
 rintro e w2 ⟨rfl,hb2⟩
 have HB2:Hid _:=hb2
 clear hb2
 go_wp2_with fail
 go_ret
 exact ⟨rfl,HB2.out⟩
def WFs (f:Fm):Prop:=∀(g lo hi:Nat) (ra:Option Addr) (ca:Nat) (w:World),f.oks→f.len≤1000000→LentF w lo hi (.slice (some ⟨g,0,none⟩) f.len (f.len+1)) f→RSF w ra f →
 Calls Tryz.prog 88 #[.slice (some ⟨g,0,none⟩) f.len (f.len+1), .slice ra f.len ca] w fun e w' => e = .returned (.bool true)∧Below w.heap.size w w'
def WFo (f:Frm):Prop:=∀(gn gk gd lo hi:Nat) (nr kr dr:Option Addr) (nc kc dc:Nat) (w:World),FOk f→f.kids.oks→LentO w lo hi f (.slice (some ⟨gn,0,none⟩) f.names.length (f.names.length+2)) (.slice (some ⟨gk,0,none⟩) f.kids.len (f.kids.len+1)) (.slice (some ⟨gd,0,none⟩) f.dat.s.len (f.dat.s.len+1))→RFo w f nr kr dr →
 Calls Tryz.prog 34 #[frmV f (.slice (some ⟨gn,0,none⟩) f.names.length (f.names.length+2)) (.slice (some ⟨gk,0,none⟩) f.kids.len (f.kids.len+1)) (.slice (some ⟨gd,0,none⟩) f.dat.s.len (f.dat.s.len+1)),frmV f (.slice nr f.names.length nc) (.slice kr f.kids.len kc) (.slice dr f.dat.s.len dc)] w fun e w' => e = .returned (.bool true)∧Below w.heap.size w w'
theorem wholeO_of (f:Frm) (h:WFs f.kids):WFo f:=by
 intro gn gk gd lo hi nr kr dr nc kc dc w hF hO hL hR
 obtain ⟨m1,m2,hT,hK,hI⟩:=hL
 obtain ⟨W1,hW1⟩:∃W1,w.alloc (Z9 f (.slice (some ⟨gn,0,none⟩) f.names.length (f.names.length+2)) (.slice (some ⟨gk,0,none⟩) f.kids.len (f.kids.len+1)) (.slice (some ⟨gd,0,none⟩) f.dat.s.len (f.dat.s.len+1)))=W1:=⟨_,rfl⟩
 obtain ⟨W2,hW2⟩:∃W2,W1.alloc (Z9 f (.slice nr f.names.length nc) (.slice kr f.kids.len kc) (.slice dr f.dat.s.len dc))=W2:=⟨_,rfl⟩
 have a1:Below w.heap.size w W1:=by rw [←hW1];exact (Below.refl _ w).alloc (Nat.le_refl w.heap.size) _
 have s1:W1.heap.size=w.heap.size+1:=by rw [←hW1,World.size_alloc]
 have a2:Below W1.heap.size W1 W2:=by rw [←hW2];exact (Below.refl _ W1).alloc (Nat.le_refl _) _
 have q1:W2.heap[w.heap.size]?=some (Z9 f (.slice (some ⟨gn,0,none⟩) f.names.length (f.names.length+2)) (.slice (some ⟨gk,0,none⟩) f.kids.len (f.kids.len+1)) (.slice (some ⟨gd,0,none⟩) f.dat.s.len (f.dat.s.len+1))):=(a2.block _ (by omega)).trans (by rw [←hW1];exact World.alloc_heap_new w _)
 have q2:W2.heap[W1.heap.size]?=some (Z9 f (.slice nr f.names.length nc) (.slice kr f.kids.len kc) (.slice dr f.dat.s.len dc)):=by rw [←hW2];exact World.alloc_heap_new W1 _
 have HB:Hid (Below w.heap.size w W2):=a1.trans (a2.mono (by omega))
 have HTC:Hid (∀wx,Below w.heap.size w wx→Calls Tryz.prog 87 #[.slice (some ⟨gn,0,none⟩) f.names.length (f.names.length+2), .slice nr f.names.length nc] wx fun e w' => e = .returned (.bool true)∧Below wx.heap.size wx w'):=fun wx hb=>wholeT_any f.names lo m1 gn nr nc wx hF.nl (hT.below hb) (hR.n.below hb).rx
 have HFC:Hid (∀wx,Below w.heap.size w wx→Calls Tryz.prog 88 #[.slice (some ⟨gk,0,none⟩) f.kids.len (f.kids.len+1), .slice kr f.kids.len kc] wx fun e w' => e = .returned (.bool true)∧Below wx.heap.size wx w'):=fun wx hb=>h gk m1 m2 kr kc wx hO hF.kl (hK.below hb) (hR.k.below hb)
 have HDC:Hid (∀wx,Below w.heap.size w wx→Calls Tryz.prog 20 #[.agg #[.int .u8 f.dat.k, .int .i64 f.dat.n,S f.dat.t, .slice (some ⟨gd,0,none⟩) f.dat.s.len (f.dat.s.len+1), .bool f.dat.d], .agg #[.int .u8 f.dat.k, .int .i64 f.dat.n,S f.dat.t, .slice dr f.dat.s.len dc, .bool f.dat.d]] wx fun e w' => e = .returned (.bool true)∧Below wx.heap.size wx w'):=fun wx hb=>wholeD_of (whole_all f.dat.s.size) f.dat.k f.dat.n f.dat.t f.dat.s f.dat.d gd m2 hi dr dc wx (Nat.le_refl _) hF.d.size (hI.below hb) (hR.d.below hb)
 have HQ1:Hid _:=q1
 have HQ2:Hid _:=q2
 obtain ⟨⟨z0,z1,z2,z3,z4,z5,z6,z7,z8⟩,_⟩:=cells9 q1
 obtain ⟨⟨x0,x1,x2,x3,x4,x5,x6,x7,x8⟩,_⟩:=cells9 q2
 clear hF hO hT hK hI hR a1 a2 q1 q2 h s1
 go_enter Tryz.func34,Tryz.ntmps34
 go_upto_region 1 with fail
 clear hW1 hW2
 go_wp2_with fail
 refine (HTC.out _ HB.out).mono ?_
 rintro e w3 ⟨rfl,hb3⟩
 have HB3:Hid (Below w.heap.size w w3):=HB.out.trans (hb3.mono HB.out.size)
 have q1:=(hb3.block _ (Array.getElem?_eq_some_iff.1 HQ1.out).1).trans HQ1.out
 have q2:=(hb3.block _ (Array.getElem?_eq_some_iff.1 HQ2.out).1).trans HQ2.out
 clear z0 z1 z2 z3 z4 z5 z6 z7 z8 x0 x1 x2 x3 x4 x5 x6 x7 x8 HTC HQ1 HQ2 hb3
 have HQ1:Hid _:=q1
 have HQ2:Hid _:=q2
 obtain ⟨⟨z0,z1,z2,z3,z4,z5,z6,z7,z8⟩,_⟩:=cells9 q1
 obtain ⟨⟨x0,x1,x2,x3,x4,x5,x6,x7,x8⟩,_⟩:=cells9 q2
 clear q1 q2
 go_wp2_with fail
 refine (HFC.out _ HB3.out).mono ?_
 rintro e w4 ⟨rfl,hb4⟩
 have HB4:Hid (Below w.heap.size w w4):=HB3.out.trans (hb4.mono HB3.out.size)
 have q1:=(hb4.block _ (Array.getElem?_eq_some_iff.1 HQ1.out).1).trans HQ1.out
 have q2:=(hb4.block _ (Array.getElem?_eq_some_iff.1 HQ2.out).1).trans HQ2.out
 clear z0 z1 z2 z3 z4 z5 z6 z7 z8 x0 x1 x2 x3 x4 x5 x6 x7 x8 HFC HQ1 HQ2 hb4
 obtain ⟨⟨z0,z1,z2,z3,z4,z5,z6,z7,z8⟩,_⟩:=cells9 q1
 obtain ⟨⟨x0,x1,x2,x3,x4,x5,x6,x7,x8⟩,_⟩:=cells9 q2
 clear q1 q2
 go_wp2_with fail
 refine (HDC.out _ HB4.out).mono ?_
 rintro e w5 ⟨rfl,hb5⟩
 have HB5:Hid (Below w.heap.size w w5):=HB4.out.trans (hb5.mono HB4.out.size)
 clear z0 z1 z2 z3 z4 z5 z6 z7 z8 x0 x1 x2 x3 x4 x5 x6 x7 x8 HDC hb5
 go_wp2_with fail
 go_ret
 exact ⟨rfl,HB5.out⟩
theorem wholeFs_of (f:Fm) (hall:EachF WFo f):WFs f:=by
 intro g lo hi ra ca w hO hm hL hR
 obtain ⟨g', cs,hv,hgl0,ho,hc⟩:=hL
 cases hv
 obtain ⟨_,hgl,_,hmx1⟩:=own_max ho
 have hcl:=hc.len
 have es:∀i u,sentF[i]?=some u→w.cell? ⟨g,f.len*9+i,none⟩=some u:=by
  intro i u hi
  refine own_cell ho _ u ?_
  rw [←hcl,List.getElem?_append_right (by omega)]
  simpa using hi
 have s0:=es 0 _ rfl
 have s1:=es 1 _ rfl
 have s3:=es 3 _ rfl
 rw [Nat.add_zero] at s0
 have HX:Hid (∀j u,cs[j]?=some u→w.cell? ⟨g,0*9+j,none⟩=some u):=fun j u hj=>by
  rw [Nat.zero_mul,Nat.zero_add]
  exact own_cell ho j u (by rw [List.getElem?_append_left (List.getElem?_eq_some_iff.1 hj).1];exact hj)
 have HCL:Hid (CF w (g+1) hi f cs):=hc
 obtain ⟨b,o,hab,hRd⟩:=hR
 have HRd:Hid (RdF w f b o):=hRd
 have HOk:Hid f.oks:=hO
 have HAll:Hid (EachF WFo f):=hall
 have Hra:Hid (f.len≠0→ra=some ⟨b,o,none⟩):=fun h=>hab.resolve_left h
 have i3:(f.len:Int)<(f.len:Int)+1:=by omega
 have i4:(f.len:Int)+1≤((f.len+1:Nat):Int):=by omega
 have hmx:Tryz.prog.follows .mixedOrders=true:=by kernel_rfl
 clear hall ho hc hRd hab hgl0 es hcl hO
 go_enter Tryz.func88,Tryz.ntmps88
 go_wp2
 clear s0 s1 s3
 go_loopw [6] (fun i wr=>∃(j:Nat) (fi:Fm) (ci:List Value) (lo1:Nat),i = .int .i64 j∧fi.len+j=f.len∧Hid (∀j' u,ci[j']?=some u→w.cell? ⟨g,j*9+j', none⟩=some u)∧Hid (CF w lo1 hi fi ci)∧Hid (RdF w fi b (o+j*9))∧Hid (EachF WFo fi)∧Hid fi.oks∧Hid (Below w.heap.size w wr)) (fun i _=>f.len-(intOf i).toNat)
 case atStart=>exact ⟨0,f,cs,g+1,rfl,by simp,HX,HCL,by simpa using HRd,HAll,HOk,Below.refl _ _⟩
 case round =>
  obtain ⟨j,fi,ci,lo1,rfl,hj,HXi,HCi,HF,HAi,HOi,HB⟩:=hrel
  cases fi with
  | nil =>
   have hj' : j=f.len:=by simpa [Fm.len] using hj
   have hjl:¬ ((j:Int)<(f.len:Int)):=by omega
   clear hj hj'
   go_wp2
   go_ret
   exact ⟨rfl,HB.out⟩
  | cons k t ns ks dk dn dt ds dd r =>
   simp only [Fm.len] at hj
   obtain ⟨nv,gk,dv,m1,m2,mid,kcs,rest,hcs,hT,⟨hg1,hok,hck⟩,hI,hcr⟩:=HCi.out
   obtain ⟨gn,rfl,_⟩:=hT.rn
   obtain ⟨gd,rfl,_⟩:=hI.rs
   have hx:=HXi.out
   rw [hcs] at hx
   have hlt:j<f.len:=by omega
   have hra:=Hra.out (by omega)
   subst hra
   have i1:(j:Int)<(f.len:Int):=by omega
   have i0:(0:Int)≤(j:Int):=by omega
   obtain ⟨hb0,nr2,nc2,kr2,kc2,dr2,dc2,⟨d0,d1,d2,d3,d4,d5,d6,d7,d8⟩,hrf,hr,hkc2⟩:=rdf_cons2 HF.out
   have bel:=HB.out
   have f0:=below_cells bel _ _ (hx 0 _ rfl)
   have f1:=below_cells bel _ _ (hx 1 _ rfl)
   have f2:=below_cells bel _ _ (hx 2 _ rfl)
   have f3:=below_cells bel _ _ (hx 3 _ rfl)
   have f4:=below_cells bel _ _ (hx 4 _ rfl)
   have f5:=below_cells bel _ _ (hx 5 _ rfl)
   have f6:=below_cells bel _ _ (hx 6 _ rfl)
   have f7:=below_cells bel _ _ (hx 7 _ rfl)
   have f8:=below_cells bel _ _ (hx 8 _ rfl)
   rw [Nat.add_zero] at f0
   have e0:=below_cells bel _ _ d0
   have e1:=below_cells bel _ _ d1
   have e2:=below_cells bel _ _ d2
   have e3:=below_cells bel _ _ d3
   have e4:=below_cells bel _ _ d4
   have e5:=below_cells bel _ _ d5
   have e6:=below_cells bel _ _ d6
   have e7:=below_cells bel _ _ d7
   have e8:=below_cells bel _ _ d8
   have Hr:Hid (RdF w r b (o+j*9+9)):=hr
   have HAr2:Hid (EachF WFo r):=HAi.out.2
   have HOr2:Hid r.oks:=HOi.out.2.2
   have Hcr:Hid _:=hcr
   have Hxr:Hid (∀j' u,rest[j']?=some u→w.cell? ⟨g,(j+1)*9+j', none⟩=some u):=fun j' u hj' => by
    have:=hx (j' + 9) u (by simpa using hj')
    rwa [show j*9+(j' + 9)=(j+1)*9+j' by omega] at this
   have HCC:Hid (∀wx,Below w.heap.size w wx→Calls Tryz.prog 34 #[frmV ⟨k,t,ns,ks,⟨dk,dn,dt,ds,dd⟩⟩ (.slice (some ⟨gn,0,none⟩) ns.length (ns.length+2)) (.slice (some ⟨gk,0,none⟩) ks.len (ks.len+1)) (.slice (some ⟨gd,0,none⟩) ds.len (ds.len+1)),frmV ⟨k,t,ns,ks,⟨dk,dn,dt,ds,dd⟩⟩ (.slice nr2 ns.length nc2) (.slice kr2 ks.len kc2) (.slice dr2 ds.len dc2)] wx fun e w' => e = .returned (.bool true)∧Below wx.heap.size wx w'):=fun wx hb =>
    HAi.out.1 gn gk gd lo1 mid nr2 kr2 dr2 nc2 kc2 dc2 wx HOi.out.1 HOi.out.2.1 (LentO.below ⟨m1,m2,hT,⟨gk,kcs,rfl,hg1,hok,hck⟩,hI⟩ hb) (hrf.below hb)
   have lb:b<wr.heap.size:=cell_lt e0
   have lg:g<wr.heap.size:=cell_lt f0
   have mk:∀wx,Below wr.heap.size wr wx→((wx.cell? ⟨g,j*9,none⟩=some (.int .u8 k)∧wx.cell? ⟨g,j*9+1,none⟩=some (S t)∧wx.cell? ⟨g,j*9+1+1,none⟩=some (.slice (some ⟨gn,0,none⟩) ns.length (ns.length+2))∧wx.cell? ⟨g,j*9+1+1+1,none⟩=some (.slice (some ⟨gk,0,none⟩) ks.len (ks.len+1))∧wx.cell? ⟨g,j*9+1+1+1+1,none⟩=some (.int .u8 dk)∧wx.cell? ⟨g,j*9+1+1+1+1+1,none⟩=some (.int .i64 dn)∧wx.cell? ⟨g,j*9+1+1+1+1+1+1,none⟩=some (S dt)∧wx.cell? ⟨g,j*9+1+1+1+1+1+1+1,none⟩=some (.slice (some ⟨gd,0,none⟩) ds.len (ds.len+1))∧wx.cell? ⟨g,j*9+1+1+1+1+1+1+1+1,none⟩=some (.bool dd))∧(wx.cell? ⟨b,o+j*9,none⟩=some (.int .u8 k)∧wx.cell? ⟨b,o+j*9+1,none⟩=some (S t)∧wx.cell? ⟨b,o+j*9+1+1,none⟩=some (.slice nr2 ns.length nc2)∧wx.cell? ⟨b,o+j*9+1+1+1,none⟩=some (.slice kr2 ks.len kc2)∧wx.cell? ⟨b,o+j*9+1+1+1+1,none⟩=some (.int .u8 dk)∧wx.cell? ⟨b,o+j*9+1+1+1+1+1,none⟩=some (.int .i64 dn)∧wx.cell? ⟨b,o+j*9+1+1+1+1+1+1,none⟩=some (S dt)∧wx.cell? ⟨b,o+j*9+1+1+1+1+1+1+1,none⟩=some (.slice dr2 ds.len dc2)∧wx.cell? ⟨b,o+j*9+1+1+1+1+1+1+1+1,none⟩=some (.bool dd))):=fun wx hb=>⟨⟨below_cells hb _ _ f0,below_cells hb _ _ f1,below_cells hb _ _ f2,below_cells hb _ _ f3,below_cells hb _ _ f4,below_cells hb _ _ f5,below_cells hb _ _ f6,below_cells hb _ _ f7,below_cells hb _ _ f8⟩,⟨below_cells hb _ _ e0,below_cells hb _ _ e1,below_cells hb _ _ e2,below_cells hb _ _ e3,below_cells hb _ _ e4,below_cells hb _ _ e5,below_cells hb _ _ e6,below_cells hb _ _ e7,below_cells hb _ _ e8⟩⟩
   clear d0 d1 d2 d3 d4 d5 d6 d7 d8 hrf hr hkc2 bel hb0 hx hcs hT hg1 hok hck hI hcr
   go_wp2_with fail
   first
   | go_region_held3 (fun wx=>(wx.cell? ⟨g,j*9,none⟩=some (.int .u8 k)∧wx.cell? ⟨g,j*9+1,none⟩=some (S t)∧wx.cell? ⟨g,j*9+1+1,none⟩=some (.slice (some ⟨gn,0,none⟩) ns.length (ns.length+2))∧wx.cell? ⟨g,j*9+1+1+1,none⟩=some (.slice (some ⟨gk,0,none⟩) ks.len (ks.len+1))∧wx.cell? ⟨g,j*9+1+1+1+1,none⟩=some (.int .u8 dk)∧wx.cell? ⟨g,j*9+1+1+1+1+1,none⟩=some (.int .i64 dn)∧wx.cell? ⟨g,j*9+1+1+1+1+1+1,none⟩=some (S dt)∧wx.cell? ⟨g,j*9+1+1+1+1+1+1+1,none⟩=some (.slice (some ⟨gd,0,none⟩) ds.len (ds.len+1))∧wx.cell? ⟨g,j*9+1+1+1+1+1+1+1+1,none⟩=some (.bool dd))∧(wx.cell? ⟨b,o+j*9,none⟩=some (.int .u8 k)∧wx.cell? ⟨b,o+j*9+1,none⟩=some (S t)∧wx.cell? ⟨b,o+j*9+1+1,none⟩=some (.slice nr2 ns.length nc2)∧wx.cell? ⟨b,o+j*9+1+1+1,none⟩=some (.slice kr2 ks.len kc2)∧wx.cell? ⟨b,o+j*9+1+1+1+1,none⟩=some (.int .u8 dk)∧wx.cell? ⟨b,o+j*9+1+1+1+1+1,none⟩=some (.int .i64 dn)∧wx.cell? ⟨b,o+j*9+1+1+1+1+1+1,none⟩=some (S dt)∧wx.cell? ⟨b,o+j*9+1+1+1+1+1+1+1,none⟩=some (.slice dr2 ds.len dc2)∧wx.cell? ⟨b,o+j*9+1+1+1+1+1+1+1+1,none⟩=some (.bool dd)))
     (first|(go_keep;done)|exact mk _ hB1)
     (first|(go_at_call 34;refine (HCC.out _ (HB.out.trans ((Below.refl _ wr).drew.mono HB.out.size))).mono ?_;rintro e w1 ⟨rfl,hb1⟩;have hB1:Below wr.heap.size wr w1:=(Below.refl _ wr).drew.trans hb1))
   | fail
   have HB1:Hid (Below w.heap.size w w1):=HB.out.trans (hB1.mono HB.out.size)
   clear hb1 hB1 f0 f1 f2 f3 f4 f5 f6 f7 f8 e0 e1 e2 e3 e4 e5 e6 e7 e8 mk HCC
   go_wp2
   go_roundw
   case rel=>exact ⟨j+1,r,rest,mid,by go_num,by omega,Hxr,Hcr,by rw [show o+(j+1)*9=o+j*9+9 by omega];exact Hr,HAr2,HOr2,HB1⟩
   case measure=>simp [intOf];omega
theorem wfo_all:∀g:Fm,EachF WFo g
 | .nil=>trivial
 | .cons _ _ _ ks _ _ _ _ _ r=>⟨wholeO_of _ (wholeFs_of ks (wfo_all ks)),wfo_all r⟩
theorem wholeForm_any (f:Frm):WFo f:=wholeO_of f (wholeFs_of f.kids (wfo_all f.kids))
structure Keeps (lo hi:Nat) (w w' : World):Prop where
 os:w'.os=w.os
 tape:w'.tape=w.tape
 output:w'.output=w.output
 size:w.heap.size≤w'.heap.size
 block:∀g,g<w.heap.size→¬ (lo≤g∧g<hi)→w'.heap[g]?=w.heap[g]?
theorem Keeps.refl (lo hi:Nat) (w:World):Keeps lo hi w w:=⟨rfl,rfl,rfl,Nat.le_refl _,fun _ _ _=>rfl⟩
theorem Keeps.trans {lo hi:Nat} {a b c:World} (h:Keeps lo hi a b) (k:Keeps lo hi b c):Keeps lo hi a c :=
 ⟨k.os.trans h.os,k.tape.trans h.tape,k.output.trans h.output,Nat.le_trans h.size k.size,fun g h1 h2=>(k.block g (Nat.lt_of_lt_of_le h1 h.size) h2).trans (h.block g h1 h2)⟩
theorem Keeps.mono {lo hi lo' hi' : Nat} {a b:World} (h:Keeps lo hi a b) (h1:lo' ≤ lo) (h2:hi≤hi'):Keeps lo' hi' a b:=⟨h.os,h.tape,h.output,h.size,fun g h3 h4=>h.block g h3 (fun h5=>h4 ⟨by omega,by omega⟩)⟩
theorem Keeps.of_below {lo hi:Nat} {a b:World} (h:Below a.heap.size a b):Keeps lo hi a b:=⟨h.os,h.tape,h.output,h.size,fun g h1 _=>h.block g h1⟩
theorem Keeps.below {lo hi n:Nat} {a b:World} (h:Keeps lo hi a b) (hn:n≤lo) (ha:n≤a.heap.size):Below n a b:=⟨h.os,h.tape,h.output,h.size,fun g h1=>h.block g (by omega) (by omega)⟩
theorem Keeps.of_nine {lo hi g:Nat} {a b:World} (h:Nine a b g) (hg:lo≤g∧g<hi):Keeps lo hi a b:=⟨h.os,h.tape,h.output,Nat.le_of_eq h.size.symm,fun x _ hx=>h.other x (fun e=>hx (e ▸ hg))⟩
theorem CI.keeps {w w' : World} {a b:Nat} (hk:Keeps a b w w'):∀{lo hi:Nat} {f:Fo} {cs:List Value},CI w lo hi f cs→(b≤lo∨hi≤a)→CI w' lo hi f cs
 | _,_, .nil,_,h,_=>h
 | lo,hi, .cons _ _ _ _ _ _,_,⟨g,mid,kcs,rest,hc,⟨h1,h2⟩,ho,hs,hr⟩,hd=>by
  have hm:=CI.le hr
  have hm2:=CI.le hs
  exact ⟨g,mid,kcs,rest,hc,⟨h1,h2⟩,own_same ho (fun x hx=>by cases hx;exact hk.block g (ho.lt g rfl).2 (by omega)),CI.keeps hk hs (by omega),CI.keeps hk hr (by omega)⟩
theorem LentI.keeps {w w' : World} {a b lo hi:Nat} {v:Value} {f:Fo} (h:LentI w lo hi v f) (hk:Keeps a b w w') (hd:b≤lo∨hi≤a):LentI w' lo hi v f:=by
 obtain ⟨g,cs,hv,⟨h1,h2⟩,ho,hc⟩:=h
 subst hv
 exact ⟨g,cs,rfl,⟨h1,h2⟩,own_same ho (fun x hx=>by cases hx;exact hk.block g (ho.lt g rfl).2 (by omega)),hc.keeps hk (by omega)⟩
theorem LentT.keeps {w w' : World} {a b lo hi:Nat} {v:Value} {l:List (List UInt8)} (h:LentT w lo hi v l) (hk:Keeps a b w w') (hd:b≤lo∨hi≤a):LentT w' lo hi v l:=by
 obtain ⟨g,hv,⟨h1,h2⟩,ho⟩:=h
 subst hv
 exact ⟨g,rfl,⟨h1,h2⟩,own_same ho (fun x hx=>by cases hx;exact hk.block g (ho.lt g rfl).2 (by omega))⟩
theorem CF.keeps {w w' : World} {a b:Nat} (hk:Keeps a b w w'):∀{lo hi:Nat} {f:Fm} {cs:List Value},CF w lo hi f cs→(b≤lo∨hi≤a)→CF w' lo hi f cs
 | _,_, .nil,_,h,_=>h
 | lo,hi, .cons _ _ _ _ _ _ _ _ _ _,_,⟨nv,gk,dv,m1,m2,mid,kcs,rest,hc,h1,⟨⟨h2,h3⟩,ho,hs⟩,h4,hr⟩,hd=>by
  have hm:=CF.le hr
  have hs' := CF.le hs
  have l1:=h1.le
  have l4:=h4.le
  exact ⟨nv,gk,dv,m1,m2,mid,kcs,rest,hc,h1.keeps hk (by omega),⟨⟨h2,h3⟩,own_same ho (fun x hx=>by cases hx;exact hk.block gk (ho.lt gk rfl).2 (by omega)),CF.keeps hk hs (by omega)⟩,h4.keeps hk (by omega),CF.keeps hk hr (by omega)⟩
theorem LentF.keeps {w w' : World} {a b lo hi:Nat} {v:Value} {f:Fm} (h:LentF w lo hi v f) (hk:Keeps a b w w') (hd:b≤lo∨hi≤a):LentF w' lo hi v f:=by
 obtain ⟨g,cs,hv,⟨h1,h2⟩,ho,hc⟩:=h
 subst hv
 exact ⟨g,cs,rfl,⟨h1,h2⟩,own_same ho (fun x hx=>by cases hx;exact hk.block g (ho.lt g rfl).2 (by omega)),hc.keeps hk (by omega)⟩
theorem own_at {w:World} {base e size n cap g:Nat} {xs:List Value} (h:w.ownsRow base e size (.slice (some ⟨g,0,none⟩) n cap) n xs) (j:Nat) (hj:j<n*size):(∃u,w.cell? ⟨g,j,none⟩=some u)∧w.frozen? ⟨g,j,none⟩=false:=by
 refine ⟨?_,h.frozenAt j⟩
 rw [h.cellAt j hj]
 have hl:=h.1
 exact ⟨_,List.getElem?_eq_getElem (by omega)⟩
def spoT:List UInt8:=[115,112,111,105,108,116]
def spD:Fo→Fo
 | .nil => .nil
 | .cons _ _ _ _ _ r => .cons 99 (-5) [] .nil false (spD r)
def spF:Fm→Fm
 | .nil => .nil
 | .cons _ _ _ _ _ _ _ _ _ r => .cons 99 spoT [] .nil 0 0 [] .nil false (spF r)
theorem spD_len:∀f:Fo,(spD f).len=f.len
 | .nil=>rfl
 | .cons _ _ _ _ _ r=>by simp only [spD,Fo.len,spD_len r]
theorem spF_len:∀f:Fm,(spF f).len=f.len
 | .nil=>rfl
 | .cons _ _ _ _ _ _ _ _ _ r=>by simp only [spF,Fm.len,spF_len r]
def sp5:List Value:=[.int .u8 99, .int .i64 (-5), .string ⟨#[]⟩, .slice none 0 0, .bool false]
def sp9:List Value:=[.int .u8 99, .string ⟨#[115,112,111,105,108,116]⟩, .slice none 0 0, .slice none 0 0, .int .u8 0, .int .i64 0, .string ⟨#[]⟩, .slice none 0 0, .bool false]
def spc (x:List Value):Nat→List Value
 | 0=>[]
 | n+1=>spc x n++x
theorem spc_len (x:List Value):∀n,(spc x n).length=n*x.length
 | 0=>by simp [spc]
 | n+1=>by simp only [spc,List.length_append,spc_len x n,Nat.succ_mul]
theorem spc_get (x:List Value) (i:Nat) (hi:i<x.length) (r:List Value):∀(n j:Nat),j<n→(spc x n++r)[j*x.length+i]?=x[i]?
 | 0,_,h=>absurd h (Nat.not_lt_zero _)
 | n+1,j,h=>by
  by_cases hj:j=n
  ·subst hj
   rw [spc,List.append_assoc,List.getElem?_append_right (by rw [spc_len];omega),spc_len]
   rw [show j*x.length+i-j*x.length=i by omega,List.getElem?_append_left hi]
  ·rw [spc,List.append_assoc]
   exact spc_get x i hi (x++r) n j (by omega)
theorem spD_rd {w:World} {g:Nat} (hg:g<w.heap.size):∀(f:Fo) (o:Nat),(∀j i u,j<f.len→sp5[i]?=some u→w.cell? ⟨g,o+(j*5+i),none⟩=some u)→Rd w g o (spD f)
 | .nil,_,_=>trivial
 | .cons _ _ _ _ _ r,o,h=>by
  have h0:∀i u,sp5[i]?=some u→w.cell? ⟨g,o+i,none⟩=some u:=fun i u hu=>by
   have:=h 0 i u (by simp [Fo.len]) hu
   rwa [show o+(0*5+i)=o+i by omega] at this
  refine ⟨⟨hg,h0 0 _ rfl,h0 1 _ rfl,h0 2 _ rfl,h0 4 _ rfl,Nat.zero_le _⟩,⟨none,0,0,0,h0 3 _ rfl, .inl rfl,trivial⟩,spD_rd hg r (o+5) fun j i u hj hu=>?_⟩
  have:=h (j+1) i u (by simp only [Fo.len];omega) hu
  rwa [show o+((j+1)*5+i)=o+5+(j*5+i) by omega] at this
theorem spF_rd {w:World} {g:Nat}:∀(f:Fm) (o:Nat),(∀j i u,j<f.len→sp9[i]?=some u→w.cell? ⟨g,o+(j*9+i),none⟩=some u)→RdF w (spF f) g o∧NcF w (spF f) g o
 | .nil,_,_=>⟨trivial,trivial⟩
 | .cons _ _ _ _ _ _ _ _ _ r,o,h=>by
  have h0:∀i u,sp9[i]?=some u→w.cell? ⟨g,o+i,none⟩=some u:=fun i u hu=>by
   have:=h 0 i u (by simp [Fm.len]) hu
   rwa [show o+(0*9+i)=o+i by omega] at this
  have hr:=spF_rd r (o+9) fun j i u hj hu=>by
   have:=h (j+1) i u (by simp only [Fm.len];omega) hu
   rwa [show o+((j+1)*9+i)=o+9+(j*9+i) by omega] at this
  exact ⟨⟨⟨h0 0 _ rfl,h0 1 _ rfl,h0 4 _ rfl,h0 5 _ rfl,h0 6 _ rfl,h0 8 _ rfl⟩,⟨none,0,none,0,none,0,⟨h0 2 _ rfl,h0 3 _ rfl,h0 7 _ rfl⟩,⟨0,0, .inl rfl,fun j s hs=>by simp at hs⟩,⟨Nat.le_refl _,0,0, .inl rfl,trivial⟩,rs_nil _ _⟩,hr.1⟩,⟨⟨none,0,h0 2 _ rfl,Nat.le_refl _⟩,⟨none,0,0,0,h0 3 _ rfl, .inl rfl,trivial⟩,hr.2⟩⟩
theorem set5s (a r:List Value) (u0 u1 u2 u3 u4:Value) (h:5≤r.length):((((((a++r).set a.length (u0)).set (a.length+1) (u1)).set (a.length+2) (u2)).set (a.length+3) (u3)).set (a.length+4) (u4))=(a++[u0,u1,u2,u3,u4])++r.drop 5:=by
 match r,h with
 | x0::x1::x2::x3::x4::r,_=>simp
theorem set9s (a r:List Value) (u0 u1 u2 u3 u4 u5 u6 u7 u8:Value) (h:9≤r.length):((((((((((a++r).set a.length (u0)).set (a.length+1) (u1)).set (a.length+2) (u2)).set (a.length+3) (u3)).set (a.length+4) (u4)).set (a.length+5) (u5)).set (a.length+6) (u6)).set (a.length+7) (u7)).set (a.length+8) (u8))=(a++[u0,u1,u2,u3,u4,u5,u6,u7,u8])++r.drop 9:=by
 match r,h with
 | x0::x1::x2::x3::x4::x5::x6::x7::x8::r,_=>simp
def SpC (N:Nat):Prop:=∀(f:Fo) (g lo hi:Nat) (w:World),f.size≤N→f.size≤1000000→LentI w lo hi (.slice (some ⟨g,0,none⟩) f.len (f.len+1)) f →
 Calls Tryz.prog 56 #[.slice (some ⟨g,0,none⟩) f.len (f.len+1)] w fun e w' => (∃v,e = .returned v)∧RS w' (some ⟨g,0,none⟩) (spD f)∧Keeps lo hi w w'
def SpD1 (N:Nat):Prop:=∀(k n:Int) (t:List UInt8) (s:Fo) (d:Bool) (g lo hi:Nat) (w:World),s.size≤N→s.size≤1000000→LentI w lo hi (.slice (some ⟨g,0,none⟩) s.len (s.len+1)) s →
 Calls Tryz.prog 21 #[.agg #[.int .u8 k, .int .i64 n,S t, .slice (some ⟨g,0,none⟩) s.len (s.len+1), .bool d]] w fun e w' => (∃v,e = .returned v)∧RS w' (some ⟨g,0,none⟩) (spD s)∧Keeps lo hi w w'
theorem spD1_of {N:Nat} (h:SpC N):SpD1 N:=by
 intro k n t s d g lo hi w hN hm hL
 have HE:Hid (SpC N):=h
 have hb:=(Below.refl _ w).alloc (Nat.le_refl w.heap.size) (.cells #[.int .u8 k, .int .i64 n,S t, .slice (some ⟨g,0,none⟩) s.len (s.len+1), .bool d] 32)
 have HC:Hid (Calls Tryz.prog 56 #[.slice (some ⟨g,0,none⟩) s.len (s.len+1)] (w.alloc (.cells #[.int .u8 k, .int .i64 n,S t, .slice (some ⟨g,0,none⟩) s.len (s.len+1), .bool d] 32)) fun e w' => (∃v,e = .returned v)∧RS w' (some ⟨g,0,none⟩) (spD s)∧Keeps lo hi w w'):=(HE.out s g lo hi _ hN hm (hL.below hb)).mono (by
  rintro e w' ⟨h1,h2,h3⟩
  exact ⟨h1,h2,(Keeps.of_below hb).trans h3⟩)
 clear h hL HE hb
 go_enter Tryz.func21,Tryz.ntmps21
 go_wp2_with fail
 refine HC.out.mono ?_
 rintro e w1 ⟨⟨v,rfl⟩,h2,h3⟩
 have H2:Hid _:=h2
 have H3:Hid _:=h3
 clear h2 h3 HC
 go_wp2
 exact bodyPost_end (results_none rfl _ _ _) rfl ⟨⟨_,rfl⟩,H2.out,H3.out⟩
theorem spC_of {N:Nat} (h:∀M,M<N→SpD1 M):SpC N:=by
 intro f g lo hi w hN hm hL
 have HS:Hid (∀M,M<N→SpD1 M):=h
 obtain ⟨g', cs,hv,⟨hl1,hl2⟩,ho,hc⟩:=hL
 cases hv
 have HO0:Hid (w.ownsRow lo 32 5 (.slice (some ⟨g,0,none⟩) (f.len+1) (f.len+1)) (f.len+1) (spc sp5 0++(cs++sentL))):=ho
 have HCI:Hid (CI w (g+1) hi f cs):=hc
 have hle:=hc.le
 have hfl:=Fo.len_size f
 have HLH:Hid (lo≤g∧g<hi):=⟨hl1,hl2⟩
 clear h ho hc hl1 hl2
 go_enter Tryz.func56,Tryz.ntmps56
 go_wp2
 go_loopw [2] (fun i wr=>∃(j:Nat) (fi:Fo) (ci:List Value) (lo1:Nat),i = .int .i64 j∧fi.len+j=f.len∧fi.size≤f.size∧g<lo1∧lo1≤hi∧Hid (wr.ownsRow lo 32 5 (.slice (some ⟨g,0,none⟩) (f.len+1) (f.len+1)) (f.len+1) (spc sp5 j++(ci++sentL)))∧Hid (CI wr lo1 hi fi ci)∧Hid (Keeps lo hi w wr)) (fun i _=>f.len-(intOf i).toNat)
 case atStart=>exact ⟨0,f,cs,g+1,rfl,by simp,Nat.le_refl _,by omega,hle,HO0,HCI,Keeps.refl _ _ _⟩
 case round =>
  obtain ⟨j,fi,ci,lo1,rfl,hj,hsz,hgl,hlh,HO,HC,HK⟩:=hrel
  cases fi with
  | nil =>
   have hj' : j=f.len:=by simpa [Fo.len] using hj
   have i1:¬ ((j:Int)<(f.len:Int)):=by omega
   have HJ:Hid _:=hj'
   clear hj hj'
   go_wp2
   refine bodyPost_end (results_none rfl _ _ _) rfl ⟨⟨_,rfl⟩,⟨g,0, .inr rfl,spD_rd (own_max HO.out).2.1 f 0 fun j' i u hj hu=>?_⟩,HK.out⟩
   rw [Nat.zero_add]
   refine own_cell HO.out _ u ?_
   have:=spc_get sp5 i (List.getElem?_eq_some_iff.1 hu).1 (ci++sentL) j j' (by rw [HJ.out];exact hj)
   rw [←hu];exact this
  | cons k n t s d r =>
   simp only [Fo.len] at hj
   simp only [Fo.size] at hsz
   obtain ⟨gx,mid,kcs,rest,hcs,⟨hg1,hg2⟩,hok,hck,hcr⟩:=HC.out
   have i1:(j:Int)<(f.len:Int):=by omega
   have i0:(0:Int)≤(j:Int):=by omega
   have hx:∀i u,ci[i]?=some u→wr.cell? ⟨g,j*5+i,none⟩=some u:=fun i u hu=>by
    refine own_cell HO.out _ u ?_
    have hl:(spc sp5 j).length=j*5:=spc_len sp5 j
    rw [List.getElem?_append_right (by omega),hl,show j*5+i-j*5=i by omega,List.getElem?_append_left (List.getElem?_eq_some_iff.1 hu).1]
    exact hu
   rw [hcs] at hx
   have f0:=hx 0 _ rfl
   have f1:=hx 1 _ rfl
   have f2:=hx 2 _ rfl
   have f3:=hx 3 _ rfl
   have f4:=hx 4 _ rfl
   rw [Nat.add_zero] at f0
   have hmr:=hcr.le
   have hls:=Fo.len_size s
   have HCC:Hid (Calls Tryz.prog 21 #[.agg #[.int .u8 k, .int .i64 n,S t, .slice (some ⟨gx,0,none⟩) s.len (s.len+1), .bool d]] wr fun e w' => (∃v,e = .returned v)∧Keeps lo1 mid wr w'):=(HS.out s.size (by omega) k n t s d gx lo1 mid wr (Nat.le_refl _) (by omega) ⟨gx,kcs,rfl,⟨hg1,hg2⟩,hok,hck⟩).mono (by
    rintro e w' ⟨h1,_,h3⟩
    exact ⟨h1,h3⟩)
   have Hcr:Hid (CI wr mid hi r rest):=hcr
   have Hcs:Hid _:=hcs
   have HMid:Hid (lo1≤mid∧mid≤hi):=⟨by omega,hmr⟩
   have HGl:Hid (g<lo1∧lo≤g∧g<hi):=⟨hgl,HLH.out.1,HLH.out.2⟩
   have lg:g<wr.heap.size:=cell_lt f0
   clear hx hcs hg1 hg2 hok hck hcr hmr hls
   go_wp2_with fail
   refine HCC.out.mono ?_
   rintro e w1 ⟨⟨v,rfl⟩,hk1⟩
   have HO1:Hid (w1.ownsRow lo 32 5 (.slice (some ⟨g,0,none⟩) (f.len+1) (f.len+1)) (f.len+1) (spc sp5 j++(ci++sentL))):=own_same HO.out (fun x hx=>by cases hx;exact hk1.block g lg (by have:=HGl.out;omega))
   have HC1:Hid (CI w1 mid hi r rest):=Hcr.out.keeps hk1 (.inl (Nat.le_refl _))
   have HK1:Hid (Keeps lo hi w w1):=HK.out.trans (hk1.mono (by have:=HGl.out;omega) HMid.out.2)
   have h0:=HO1.out
   have h1:=(h0.stored (j*5) (.int .u8 99)).1
   have h2:=(h1.stored (j*5+1) (.int .i64 (-5))).1
   have h3:=(h2.stored (j*5+2) (.string ⟨#[]⟩)).1
   have h4:=(h3.stored (j*5+3) (.slice none 0 0)).1
   obtain ⟨⟨c0,hc0⟩,hf0⟩:=own_at h0 (j*5) (by omega)
   obtain ⟨⟨c1,hc1⟩,hf1⟩:=own_at h1 (j*5+1) (by omega)
   obtain ⟨⟨c2,hc2⟩,hf2⟩:=own_at h2 (j*5+2) (by omega)
   obtain ⟨⟨c3,hc3⟩,hf3⟩:=own_at h3 (j*5+3) (by omega)
   obtain ⟨⟨c4,hc4⟩,hf4⟩:=own_at h4 (j*5+4) (by omega)
   have h5:=(h4.stored (j*5+4) (.bool false)).1
   have hl:(spc sp5 j).length=j*5:=spc_len sp5 j
   have e5:=set5s (spc sp5 j) (ci++sentL) (.int .u8 99) (.int .i64 (-5)) (.string ⟨#[]⟩) (.slice none 0 0) (.bool false) (by rw [Hcs.out];simp)
   rw [hl] at e5
   rw [e5] at h5
   have e6:(ci++sentL).drop 5=rest++sentL:=by rw [Hcs.out];rfl
   rw [e6] at h5
   have hn6:Nine w1 ((((((w1.setCell ⟨g,j*5,none⟩ (.int .u8 99)).setCell ⟨g,j*5+1,none⟩ (.int .i64 (-5))).setCell ⟨g,j*5+2,none⟩ (.string ⟨#[]⟩)).setCell ⟨g,j*5+3,none⟩ (.slice none 0 0)).setCell ⟨g,j*5+4,none⟩ (.bool false))) g:=(((((Nine.refl w1 g).set (j*5) _).set (j*5+1) _).set (j*5+2) _).set (j*5+3) _).set (j*5+4) _
   have hk6:Keeps lo hi w1 ((((((w1.setCell ⟨g,j*5,none⟩ (.int .u8 99)).setCell ⟨g,j*5+1,none⟩ (.int .i64 (-5))).setCell ⟨g,j*5+2,none⟩ (.string ⟨#[]⟩)).setCell ⟨g,j*5+3,none⟩ (.slice none 0 0)).setCell ⟨g,j*5+4,none⟩ (.bool false))):=Keeps.of_nine hn6 (by have:=HGl.out;omega)
   have HC6:Hid (CI ((((((w1.setCell ⟨g,j*5,none⟩ (.int .u8 99)).setCell ⟨g,j*5+1,none⟩ (.int .i64 (-5))).setCell ⟨g,j*5+2,none⟩ (.string ⟨#[]⟩)).setCell ⟨g,j*5+3,none⟩ (.slice none 0 0)).setCell ⟨g,j*5+4,none⟩ (.bool false))) mid hi r rest):=HC1.out.keeps (Keeps.of_nine (lo:=g) (hi:=g+1) hn6 (by omega)) (.inl (by have:=HGl.out;have:=HMid.out;omega))
   have HK6:Hid (Keeps lo hi w ((((((w1.setCell ⟨g,j*5,none⟩ (.int .u8 99)).setCell ⟨g,j*5+1,none⟩ (.int .i64 (-5))).setCell ⟨g,j*5+2,none⟩ (.string ⟨#[]⟩)).setCell ⟨g,j*5+3,none⟩ (.slice none 0 0)).setCell ⟨g,j*5+4,none⟩ (.bool false)))):=HK1.out.trans hk6
   have HO6:Hid (((((((w1.setCell ⟨g,j*5,none⟩ (.int .u8 99)).setCell ⟨g,j*5+1,none⟩ (.int .i64 (-5))).setCell ⟨g,j*5+2,none⟩ (.string ⟨#[]⟩)).setCell ⟨g,j*5+3,none⟩ (.slice none 0 0)).setCell ⟨g,j*5+4,none⟩ (.bool false))).ownsRow lo 32 5 (.slice (some ⟨g,0,none⟩) (f.len+1) (f.len+1)) (f.len+1) (spc sp5 (j+1)++(rest++sentL))):=h5
   have hgm:g<mid∧mid≤hi:=by have:=HGl.out;have:=HMid.out;omega
   clear h0 h1 h2 h3 h4 h5 e5 e6 hn6 hk6 hk1 f0 f1 f2 f3 f4 HCC lg hl
   go_wp2_with fail
   case roundEnd =>
   refine ⟨⟨j+1,r,rest,mid,by go_num,by omega,by omega,hgm.1,hgm.2,HO6,HC6,HK6⟩,?_⟩
   simp [intOf];omega
theorem sp_all:∀N,SpC N:=fun N=>by
 induction N using Nat.strongRecOn with
 | _ N ih=>exact spC_of (fun M hM=>spD1_of (ih M hM))
def spT (l:List (List UInt8)):List (List UInt8):=l.map fun _=>spoT
theorem spoilT_any (l:List (List UInt8)) (g lo hi:Nat) (w:World) (hm:l.length≤1000000) (hL:LentT w lo hi (.slice (some ⟨g,0,none⟩) l.length (l.length+2)) l) :
  Calls Tryz.prog 89 #[.slice (some ⟨g,0,none⟩) l.length (l.length+2)] w fun e w' => (∃v,e = .returned v)∧RN w' (some ⟨g,0,none⟩) (spT l)∧Keeps lo hi w w' := by
 obtain ⟨g', hv,⟨h1,h2⟩,ho⟩:=hL
 cases hv
 have HN:Hid (∀(w' : World),w'.ownsRow lo 9 1 (.slice (some ⟨g,0,none⟩) (l.length+2) (l.length+2)) (l.length+2) (spc [S spoT] (l.length+2))→RN w' (some ⟨g,0,none⟩) (spT l)):=fun w' hw=>by
  refine ⟨g,0, .inr rfl,fun j s hs=>?_⟩
  rw [Nat.zero_add]
  have hj:j<l.length:=by have:=(List.getElem?_eq_some_iff.1 hs).1;simpa [spT] using this
  have hs2:s=spoT:=by
   unfold spT at hs
   rw [List.getElem?_map] at hs
   cases h:l[j]? with
   | none=>rw [h] at hs;cases hs
   | some x=>rw [h] at hs;exact (Option.some.inj hs).symm
  subst hs2
  refine own_cell hw j (S spoT) ?_
  have:=spc_get [S spoT] 0 (by simp) [] (l.length+2) j (by omega)
  simpa using this
 have HO:Hid (w.ownsRow lo 9 1 (.slice (some ⟨g,0,none⟩) (l.length+2) (l.length+2)) (l.length+2) (spc [S spoT] 0++(l++[ownT,ownT]).map S)):=ho
 have HG:Hid (lo≤g∧g<hi):=⟨h1,h2⟩
 obtain ⟨R,hR⟩:∃R,(l++[ownT,ownT]).map S=R:=⟨_,rfl⟩
 rw [hR] at HO
 clear ho h1 h2 hR
 generalize l.length=n at *
 go_enter Tryz.func89,Tryz.ntmps89
 go_wp2
 go_loopw [3] (fun i wr=>∃(j:Nat) (ci:List Value),i = .int .i64 j∧j≤n+2∧Hid (wr.ownsRow lo 9 1 (.slice (some ⟨g,0,none⟩) (n+2) (n+2)) (n+2) (spc [S spoT] j++ci))∧Hid (Keeps lo hi w wr)) (fun i _=>n+2-(intOf i).toNat)
 case atStart=>exact ⟨0,R,rfl,Nat.zero_le _,HO,Keeps.refl _ _ _⟩
 case round =>
  obtain ⟨j,ci,rfl,hj,HOj,HK⟩:=hrel
  have hlen:j+ci.length=n+2:=by
   have h1:=HOj.out.1
   rw [List.length_append,spc_len] at h1
   simpa using h1
  by_cases hlt:j<n+2
  ·have i1:(j:Int)<((n+2:Nat):Int):=by omega
   have i0:(0:Int)≤(j:Int):=by omega
   obtain ⟨⟨c0,hc0⟩,hf0⟩:=own_at HOj.out j (by omega)
   have hs:=(HOj.out.stored j (S spoT)).1
   have hl:(spc [S spoT] j).length=j:=by rw [spc_len];simp
   have hn6:Nine wr (wr.setCell ⟨g,j,none⟩ (S spoT)) g:=(Nine.refl wr g).set j _
   have HK6:Hid (Keeps lo hi w (wr.setCell ⟨g,j,none⟩ (S spoT))):=HK.out.trans (Keeps.of_nine hn6 HG.out)
   have HO6:Hid ((wr.setCell ⟨g,j,none⟩ (S spoT)).ownsRow lo 9 1 (.slice (some ⟨g,0,none⟩) (n+2) (n+2)) (n+2) (spc [S spoT] (j+1)++ci.drop 1)):=by
    have e:(spc [S spoT] j++ci).set j (S spoT)=spc [S spoT] (j+1)++ci.drop 1:=by
     match ci,hlen with
     | [],h=>simp at h;omega
     | y::r,_=>rw [List.set_append_right _ _ (by omega),hl,Nat.sub_self];simp [spc]
    show World.ownsRow _ _ _ _ _ _ _
    rw [←e];exact hs
   have lg:=cell_lt hc0
   clear hs hl hn6
   go_wp2_with fail
   case roundEnd =>
   refine ⟨⟨j+1,ci.drop 1,by go_num,by omega,HO6,HK6⟩,?_⟩
   simp [intOf];omega
  ·have i1:¬ ((j:Int)<((n+2:Nat):Int)):=by omega
   have hj2:j=n+2:=by omega
   have hci:ci=[]:=List.length_eq_zero_iff.1 (by omega)
   subst hci hj2
   rw [List.append_nil] at HOj
   clear hlen hlt hj
   go_wp2
   exact bodyPost_end (results_none rfl _ _ _) rfl ⟨⟨_,rfl⟩,HN.out _ HOj.out,HK.out⟩
def spo (f:Frm):Frm:=⟨f.kind,f.text,spT f.names,spF f.kids,⟨f.dat.k,f.dat.n,f.dat.t,spD f.dat.s,f.dat.d⟩⟩
def SpFs (f:Fm):Prop:=∀(g lo hi:Nat) (w:World),f.oks→f.len≤1000000→hi≤w.heap.size→LentF w lo hi (.slice (some ⟨g,0,none⟩) f.len (f.len+1)) f →
 Calls Tryz.prog 90 #[.slice (some ⟨g,0,none⟩) f.len (f.len+1)] w fun e w' => (∃v,e = .returned v)∧(RSF w' (some ⟨g,0,none⟩) (spF f)∧NcS w' (some ⟨g,0,none⟩) (spF f))∧Keeps lo hi w w'
def SpFo (f:Frm):Prop:=∀(gn gk gd lo hi:Nat) (w:World),FOk f→f.kids.oks→hi≤w.heap.size→LentO w lo hi f (.slice (some ⟨gn,0,none⟩) f.names.length (f.names.length+2)) (.slice (some ⟨gk,0,none⟩) f.kids.len (f.kids.len+1)) (.slice (some ⟨gd,0,none⟩) f.dat.s.len (f.dat.s.len+1)) →
 Calls Tryz.prog 35 #[frmV f (.slice (some ⟨gn,0,none⟩) f.names.length (f.names.length+2)) (.slice (some ⟨gk,0,none⟩) f.kids.len (f.kids.len+1)) (.slice (some ⟨gd,0,none⟩) f.dat.s.len (f.dat.s.len+1))] w fun e w' => (∃v,e = .returned v)∧(RFo w' (spo f) (some ⟨gn,0,none⟩) (some ⟨gk,0,none⟩) (some ⟨gd,0,none⟩)∧NcS w' (some ⟨gk,0,none⟩) (spF f.kids))∧Keeps lo hi w w'
theorem LentO.le {w:World} {lo hi:Nat} {f:Frm} {nv kv dv:Value} (h:LentO w lo hi f nv kv dv):lo<hi:=by
 obtain ⟨m1,m2,h1,h2,h3⟩:=h
 have:=h1.le
 have:=h2.le
 have:=h3.le
 omega
theorem RN.at {w w' : World} {g:Nat} {l:List (List UInt8)} (h:RN w (some ⟨g,0,none⟩) l) (hg:w'.heap[g]?=w.heap[g]?):RN w' (some ⟨g,0,none⟩) l:=by
 obtain ⟨b,o,h1,h2⟩:=h
 by_cases hl:l=[]
 ·exact ⟨b,o, .inl hl,fun j s hs=>by rw [hl] at hs;simp at hs⟩
 ·have e:=h1.resolve_left hl
  cases e
  refine ⟨g,0, .inr rfl,fun j s hs=>?_⟩
  have:=h2 j s hs
  simp only [World.cell?] at this ⊢
  rw [hg];exact this
theorem spF_at {w w' : World} {g:Nat} {f:Fm} (h:RSF w (some ⟨g,0,none⟩) (spF f)∧NcS w (some ⟨g,0,none⟩) (spF f)) (hg:w'.heap[g]?=w.heap[g]?):RSF w' (some ⟨g,0,none⟩) (spF f)∧NcS w' (some ⟨g,0,none⟩) (spF f):=by
 have hc:∀o,w'.cell? ⟨g,o,none⟩=w.cell? ⟨g,o,none⟩:=fun o=>by simp only [World.cell?];rw [hg]
 have key:∀(f:Fm) (o:Nat),RdF w (spF f) g o→RdF w' (spF f) g o∧NcF w' (spF f) g o:=by
  intro f
  induction f with
  | nil=>intro _ _;exact ⟨trivial,trivial⟩
  | cons k t ns ks dk dn dt ds dd r _ ih =>
   intro o h
   obtain ⟨⟨h1,h2,h3,h4,h5,h6⟩,⟨nr,nc,kr,kc,dr,dc,⟨h7,h8,h9⟩,_,_,_⟩,hr⟩:=h
   have:=ih (o+9) hr
   exact ⟨⟨⟨(hc _).trans h1,(hc _).trans h2,(hc _).trans h3,(hc _).trans h4,(hc _).trans h5,(hc _).trans h6⟩,⟨nr,nc,kr,kc,dr,dc,⟨(hc _).trans h7,(hc _).trans h8,(hc _).trans h9⟩,⟨0,0, .inl rfl,fun j s hs=>by simp at hs⟩,⟨Nat.zero_le _,0,0, .inl rfl,trivial⟩,rs_nil _ _⟩,this.1⟩,⟨⟨nr,nc,(hc _).trans h7,Nat.zero_le _⟩,⟨kr,kc,0,0,(hc _).trans h8, .inl rfl,trivial⟩,this.2⟩⟩
 by_cases hz:f.len=0
 ·have e:f = .nil:=by cases f with|nil=>rfl|cons=>simp [Fm.len] at hz
  subst e
  exact ⟨⟨0,0, .inl rfl,trivial⟩,⟨0,0, .inl rfl,trivial⟩⟩
 ·obtain ⟨⟨b,o,h1,h2⟩,_⟩:=h
  have e:=h1.resolve_left (by rw [spF_len];exact hz)
  cases e
  have:=key f 0 h2
  exact ⟨⟨g,0, .inr rfl,this.1⟩,⟨g,0, .inr rfl,this.2⟩⟩
theorem spoilO_of (f:Frm) (h:SpFs f.kids):SpFo f:=by
 intro gn gk gd lo hi w hF hO hhi hL
 have hLle:=hL.le
 obtain ⟨W1,hW1⟩:∃W1,w.alloc (Z9 f (.slice (some ⟨gn,0,none⟩) f.names.length (f.names.length+2)) (.slice (some ⟨gk,0,none⟩) f.kids.len (f.kids.len+1)) (.slice (some ⟨gd,0,none⟩) f.dat.s.len (f.dat.s.len+1)))=W1:=⟨_,rfl⟩
 have a1:Below w.heap.size w W1:=by rw [←hW1];exact (Below.refl _ w).alloc (Nat.le_refl w.heap.size) _
 have q1:W1.heap[w.heap.size]?=some (Z9 f (.slice (some ⟨gn,0,none⟩) f.names.length (f.names.length+2)) (.slice (some ⟨gk,0,none⟩) f.kids.len (f.kids.len+1)) (.slice (some ⟨gd,0,none⟩) f.dat.s.len (f.dat.s.len+1))):=by rw [←hW1];exact World.alloc_heap_new w _
 have hL1:=hL.below a1
 obtain ⟨m1,m2,hT,hK,hI⟩:=hL1
 have lT:=hT.le
 have lK:=hK.le
 have lI:=hI.le
 obtain ⟨gn', hvn,_,hgn,hln,_⟩:=hT.rn
 cases hvn
 have hmaxk:=hK.rs
 obtain ⟨gk', hvk,_,_,_,hgk0,hlk⟩:=hmaxk
 cases hvk
 have hgk:gk<m2:=by obtain ⟨_,_,e,h3,_⟩:=hK;cases e;exact h3.2
 have hgd:m2≤gd∧gd<hi∧gd<W1.heap.size:=by
  obtain ⟨gd', e,_,_,h3,h4⟩:=hI.rs
  cases e
  obtain ⟨_,_,e,h5,_⟩:=hI
  cases e
  exact ⟨h5.1,h5.2,h4⟩
 have HTC:Hid (Calls Tryz.prog 89 #[.slice (some ⟨gn,0,none⟩) f.names.length (f.names.length+2)] W1 fun e w' => (∃v,e = .returned v)∧RN w' (some ⟨gn,0,none⟩) (spT f.names)∧Keeps lo m1 W1 w'):=spoilT_any f.names gn lo m1 W1 hF.nl hT
 have HFC:Hid (∀wx,Keeps lo m1 W1 wx→Calls Tryz.prog 90 #[.slice (some ⟨gk,0,none⟩) f.kids.len (f.kids.len+1)] wx fun e w' => (∃v,e = .returned v)∧(RSF w' (some ⟨gk,0,none⟩) (spF f.kids)∧NcS w' (some ⟨gk,0,none⟩) (spF f.kids))∧Keeps m1 m2 wx w'):=fun wx hb=>h gk m1 m2 wx hO hF.kl (by have:=hb.size;have:=a1.size;omega) (hK.keeps hb (.inl (Nat.le_refl _)))
 have HDC:Hid (∀wx,Keeps lo m2 W1 wx→Calls Tryz.prog 21 #[.agg #[.int .u8 f.dat.k, .int .i64 f.dat.n,S f.dat.t, .slice (some ⟨gd,0,none⟩) f.dat.s.len (f.dat.s.len+1), .bool f.dat.d]] wx fun e w' => (∃v,e = .returned v)∧RS w' (some ⟨gd,0,none⟩) (spD f.dat.s)∧Keeps m2 hi wx w'):=fun wx hb=>spD1_of (sp_all f.dat.s.size) f.dat.k f.dat.n f.dat.t f.dat.s f.dat.d gd m2 hi wx (Nat.le_refl _) hF.d.size (hI.keeps hb (.inl (Nat.le_refl _)))
 have HB:Hid (Below w.heap.size w W1):=a1
 have HQ1:Hid (W1.heap[w.heap.size]?=some (.cells #[.int .u8 f.kind,S f.text, .slice (some ⟨gn,0,none⟩) f.names.length (f.names.length+2), .slice (some ⟨gk,0,none⟩) f.kids.len (f.kids.len+1), .int .u8 f.dat.k, .int .i64 f.dat.n,S f.dat.t, .slice (some ⟨gd,0,none⟩) f.dat.s.len (f.dat.s.len+1), .bool f.dat.d] 36 (0,0))):=q1
 have HHI:Hid (hi≤w.heap.size):=hhi
 have HM:Hid (lo<m1∧m1<m2∧m2<hi):=⟨lT,lK,lI⟩
 have HGn:Hid ((lo≤gn∧gn<m1)∧gn<W1.heap.size):=⟨hgn,hln⟩
 have HGk:Hid ((m1≤gk∧gk<m2)∧gk<W1.heap.size):=⟨⟨hgk0,hgk⟩,hlk⟩
 have lw:=(Array.getElem?_eq_some_iff.1 HQ1.out).1
 obtain ⟨⟨z0,z1,z2,z3,z4,z5,z6,z7,z8⟩,_⟩:=cells9 HQ1.out
 clear hF hO hL hT hK hI h a1 q1 hLle lT lK lI hgn hln hgk0 hlk hgk hgd hhi
 go_enter Tryz.func35,Tryz.ntmps35
 go_upto_region 1 with fail
 clear hW1
 go_wp2_with fail
 refine HTC.out.mono ?_
 rintro e w2 ⟨⟨v2,rfl⟩,hn2,hk2⟩
 have HN2:Hid (RN w2 (some ⟨gn,0,none⟩) (spT f.names)):=hn2
 have HK2:Hid (Keeps lo m1 W1 w2):=hk2
 have q2:=(hk2.block w.heap.size lw (by have:=HHI.out;have:=HM.out;omega)).trans HQ1.out
 have lw2:=Nat.lt_of_lt_of_le lw hk2.size
 clear hn2 hk2 z0 z1 z2 z3 z4 z5 z6 z7 z8 HTC
 have HQ2:Hid _:=q2
 obtain ⟨⟨z0,z1,z2,z3,z4,z5,z6,z7,z8⟩,_⟩:=cells9 q2
 clear q2
 go_wp2_with fail
 refine (HFC.out w2 HK2.out).mono ?_
 rintro e w3 ⟨⟨v3,rfl⟩,hf3,hk3⟩
 have HF3:Hid (RSF w3 (some ⟨gk,0,none⟩) (spF f.kids)∧NcS w3 (some ⟨gk,0,none⟩) (spF f.kids)):=hf3
 have HK3:Hid (Keeps m1 m2 w2 w3):=hk3
 have q3:=(hk3.block w.heap.size lw2 (by have:=HHI.out;have:=HM.out;omega)).trans HQ2.out
 have lw3:=Nat.lt_of_lt_of_le lw2 hk3.size
 clear hf3 hk3 z0 z1 z2 z3 z4 z5 z6 z7 z8 HFC
 obtain ⟨⟨z0,z1,z2,z3,z4,z5,z6,z7,z8⟩,_⟩:=cells9 q3
 clear q3
 have HK13:Hid (Keeps lo m2 W1 w3):=(HK2.out.mono (Nat.le_refl _) (by have:=HM.out;omega)).trans (HK3.out.mono (by have:=HM.out;omega) (Nat.le_refl _))
 go_wp2_with fail
 refine (HDC.out w3 HK13.out).mono ?_
 rintro e w4 ⟨⟨v4,rfl⟩,hd4,hk4⟩
 have HD4:Hid (RS w4 (some ⟨gd,0,none⟩) (spD f.dat.s)):=hd4
 have HK4:Hid (Keeps m2 hi w3 w4):=hk4
 clear hd4 hk4 z0 z1 z2 z3 z4 z5 z6 z7 z8 HDC lw lw2 lw3
 go_wp2
 refine bodyPost_end (results_none rfl _ _ _) rfl ⟨⟨_,rfl⟩,⟨⟨?_,?_,HD4.out⟩,?_⟩,?_⟩
 ·refine HN2.out.at ?_
  have h1:=HGn.out
  have h2:=HM.out
  have h3:=HK2.out.size
  have h4:=HK3.out.size
  exact (HK4.out.block gn (by omega) (by omega)).trans (HK3.out.block gn (by omega) (by omega))
 ·have h1:=HGk.out
  have h2:=HM.out
  have h3:=HK13.out.size
  exact (spF_at HF3.out (HK4.out.block gk (by omega) (by omega))).1
 ·have h1:=HGk.out
  have h2:=HM.out
  have h3:=HK13.out.size
  exact (spF_at HF3.out (HK4.out.block gk (by omega) (by omega))).2
 ·have h2:=HM.out
  exact (Keeps.of_below (HB.out)).trans ((HK13.out.mono (Nat.le_refl _) (by omega)).trans (HK4.out.mono (by omega) (Nat.le_refl _)))
theorem spoilFs_of (f:Fm) (hall:EachF SpFo f):SpFs f:=by
 intro g lo hi w hO hm hhi hL
 obtain ⟨g', cs,hv,⟨hl1,hl2⟩,ho,hc⟩:=hL
 cases hv
 have HO0:Hid (w.ownsRow lo 36 9 (.slice (some ⟨g,0,none⟩) (f.len+1) (f.len+1)) (f.len+1) (spc sp9 0++(cs++sentF))):=ho
 have HCI:Hid (CF w (g+1) hi f cs):=hc
 have hle:=hc.le
 have HLH:Hid (lo≤g∧g<hi∧hi≤w.heap.size):=⟨hl1,hl2,hhi⟩
 have HAll:Hid (EachF SpFo f):=hall
 have HOks:Hid f.oks:=hO
 clear hall ho hc hl1 hl2 hO hhi
 go_enter Tryz.func90,Tryz.ntmps90
 go_wp2
 go_loopw [2] (fun i wr=>∃(j:Nat) (fi:Fm) (ci:List Value) (lo1:Nat),i = .int .i64 j∧fi.len+j=f.len∧g<lo1∧lo1≤hi∧Hid (wr.ownsRow lo 36 9 (.slice (some ⟨g,0,none⟩) (f.len+1) (f.len+1)) (f.len+1) (spc sp9 j++(ci++sentF)))∧Hid (CF wr lo1 hi fi ci)∧Hid (EachF SpFo fi)∧Hid fi.oks∧Hid (Keeps lo hi w wr)) (fun i _=>f.len-(intOf i).toNat)
 case atStart=>exact ⟨0,f,cs,g+1,rfl,by simp,by omega,hle,HO0,HCI,HAll,HOks,Keeps.refl _ _ _⟩
 case round =>
  obtain ⟨j,fi,ci,lo1,rfl,hj,hgl,hlh,HO,HC,HAi,HOi,HK⟩:=hrel
  cases fi with
  | nil =>
   have hj' : j=f.len:=by simpa [Fm.len] using hj
   have i1:¬ ((j:Int)<(f.len:Int)):=by omega
   have HJ:Hid _:=hj'
   clear hj hj'
   go_wp2
   have hr:=spF_rd (w:=wr) (g:=g) f 0 fun j' i u hj hu=>by
    rw [Nat.zero_add]
    refine own_cell HO.out _ u ?_
    have:=spc_get sp9 i (List.getElem?_eq_some_iff.1 hu).1 (ci++sentF) j j' (by rw [HJ.out];exact hj)
    rw [←hu];exact this
   exact bodyPost_end (results_none rfl _ _ _) rfl ⟨⟨_,rfl⟩,⟨⟨g,0, .inr rfl,hr.1⟩,⟨g,0, .inr rfl,hr.2⟩⟩,HK.out⟩
  | cons k t ns ks dk dn dt ds dd r =>
   simp only [Fm.len] at hj
   obtain ⟨nv,gk,dv,m1,m2,mid,kcs,rest,hcs,hT,⟨hg1,hok,hck⟩,hI,hcr⟩:=HC.out
   obtain ⟨gn,rfl,_⟩:=hT.rn
   obtain ⟨gd,rfl,_⟩:=hI.rs
   have i1:(j:Int)<(f.len:Int):=by omega
   have i0:(0:Int)≤(j:Int):=by omega
   have hx:∀i u,ci[i]?=some u→wr.cell? ⟨g,j*9+i,none⟩=some u:=fun i u hu=>by
    refine own_cell HO.out _ u ?_
    have hl:(spc sp9 j).length=j*9:=spc_len sp9 j
    rw [List.getElem?_append_right (by omega),hl,show j*9+i-j*9=i by omega,List.getElem?_append_left (List.getElem?_eq_some_iff.1 hu).1]
    exact hu
   rw [hcs] at hx
   have f0:=hx 0 _ rfl
   have f1:=hx 1 _ rfl
   have f2:=hx 2 _ rfl
   have f3:=hx 3 _ rfl
   have f4:=hx 4 _ rfl
   have f5:=hx 5 _ rfl
   have f6:=hx 6 _ rfl
   have f7:=hx 7 _ rfl
   have f8:=hx 8 _ rfl
   rw [Nat.add_zero] at f0
   have hmr:=hcr.le
   have hLO:LentO wr lo1 mid ⟨k,t,ns,ks,⟨dk,dn,dt,ds,dd⟩⟩ (.slice (some ⟨gn,0,none⟩) ns.length (ns.length+2)) (.slice (some ⟨gk,0,none⟩) ks.len (ks.len+1)) (.slice (some ⟨gd,0,none⟩) ds.len (ds.len+1)):=⟨m1,m2,hT,⟨gk,kcs,rfl,hg1,hok,hck⟩,hI⟩
   have hlm:=hLO.le
   have HCC:Hid (Calls Tryz.prog 35 #[frmV ⟨k,t,ns,ks,⟨dk,dn,dt,ds,dd⟩⟩ (.slice (some ⟨gn,0,none⟩) ns.length (ns.length+2)) (.slice (some ⟨gk,0,none⟩) ks.len (ks.len+1)) (.slice (some ⟨gd,0,none⟩) ds.len (ds.len+1))] wr fun e w' => (∃v,e = .returned v)∧Keeps lo1 mid wr w'):=(HAi.out.1 gn gk gd lo1 mid wr HOi.out.1 HOi.out.2.1 (by have:=HK.out.size;have:=HLH.out;omega) hLO).mono (by
    rintro e w' ⟨h1,_,h3⟩
    exact ⟨h1,h3⟩)
   have Hcr:Hid (CF wr mid hi r rest):=hcr
   have Hcs:Hid _:=hcs
   have HMid:Hid (lo1≤mid∧mid≤hi):=⟨by omega,hmr⟩
   have HGl:Hid (g<lo1∧lo≤g∧g<hi):=⟨hgl,HLH.out.1,HLH.out.2.1⟩
   have HAr2:Hid (EachF SpFo r):=HAi.out.2
   have HOr2:Hid r.oks:=HOi.out.2.2
   have lg:g<wr.heap.size:=cell_lt f0
   clear hx hcs hT hg1 hok hck hI hcr hmr hLO hlm
   go_wp2_with fail
   refine HCC.out.mono ?_
   rintro e w1 ⟨⟨v,rfl⟩,hk1⟩
   have HO1:Hid (w1.ownsRow lo 36 9 (.slice (some ⟨g,0,none⟩) (f.len+1) (f.len+1)) (f.len+1) (spc sp9 j++(ci++sentF))):=own_same HO.out (fun x hx=>by cases hx;exact hk1.block g lg (by have:=HGl.out;omega))
   have HC1:Hid (CF w1 mid hi r rest):=Hcr.out.keeps hk1 (.inl (Nat.le_refl _))
   have HK1:Hid (Keeps lo hi w w1):=HK.out.trans (hk1.mono (by have:=HGl.out;omega) HMid.out.2)
   have h0:=HO1.out
   have h1:=(h0.stored (j*9) (.int .u8 99)).1
   have h2:=(h1.stored (j*9+1) (.string ⟨#[115,112,111,105,108,116]⟩)).1
   have h3:=(h2.stored (j*9+2) (.slice none 0 0)).1
   have h4:=(h3.stored (j*9+3) (.slice none 0 0)).1
   have h5:=(h4.stored (j*9+4) (.int .u8 0)).1
   have h6:=(h5.stored (j*9+5) (.int .i64 0)).1
   have h7:=(h6.stored (j*9+6) (.string ⟨#[]⟩)).1
   have h8:=(h7.stored (j*9+7) (.slice none 0 0)).1
   obtain ⟨⟨c0,hc0⟩,hf0⟩:=own_at h0 (j*9) (by omega)
   obtain ⟨⟨c1,hc1⟩,hf1⟩:=own_at h1 (j*9+1) (by omega)
   obtain ⟨⟨c2,hc2⟩,hf2⟩:=own_at h2 (j*9+2) (by omega)
   obtain ⟨⟨c3,hc3⟩,hf3⟩:=own_at h3 (j*9+3) (by omega)
   obtain ⟨⟨c4,hc4⟩,hf4⟩:=own_at h4 (j*9+4) (by omega)
   obtain ⟨⟨c5,hc5⟩,hf5⟩:=own_at h5 (j*9+5) (by omega)
   obtain ⟨⟨c6,hc6⟩,hf6⟩:=own_at h6 (j*9+6) (by omega)
   obtain ⟨⟨c7,hc7⟩,hf7⟩:=own_at h7 (j*9+7) (by omega)
   obtain ⟨⟨c8,hc8⟩,hf8⟩:=own_at h8 (j*9+8) (by omega)
   have h9:=(h8.stored (j*9+8) (.bool false)).1
   have hl:(spc sp9 j).length=j*9:=spc_len sp9 j
   have e5:=set9s (spc sp9 j) (ci++sentF) (.int .u8 99) (.string ⟨#[115,112,111,105,108,116]⟩) (.slice none 0 0) (.slice none 0 0) (.int .u8 0) (.int .i64 0) (.string ⟨#[]⟩) (.slice none 0 0) (.bool false) (by rw [Hcs.out];simp)
   rw [hl] at e5
   rw [e5] at h9
   have e6:(ci++sentF).drop 9=rest++sentF:=by rw [Hcs.out];rfl
   rw [e6] at h9
   have hn6:Nine w1 ((((((((((w1.setCell ⟨g,j*9,none⟩ (.int .u8 99)).setCell ⟨g,j*9+1,none⟩ (.string ⟨#[115,112,111,105,108,116]⟩)).setCell ⟨g,j*9+2,none⟩ (.slice none 0 0)).setCell ⟨g,j*9+3,none⟩ (.slice none 0 0)).setCell ⟨g,j*9+4,none⟩ (.int .u8 0)).setCell ⟨g,j*9+5,none⟩ (.int .i64 0)).setCell ⟨g,j*9+6,none⟩ (.string ⟨#[]⟩)).setCell ⟨g,j*9+7,none⟩ (.slice none 0 0)).setCell ⟨g,j*9+8,none⟩ (.bool false))) g:=((((((((((Nine.refl w1 g).set (j*9) _).set (j*9+1) _).set (j*9+2) _).set (j*9+3) _).set (j*9+4) _).set (j*9+5) _).set (j*9+6) _).set (j*9+7) _).set (j*9+8) _)
   have hk6:Keeps lo hi w1 ((((((((((w1.setCell ⟨g,j*9,none⟩ (.int .u8 99)).setCell ⟨g,j*9+1,none⟩ (.string ⟨#[115,112,111,105,108,116]⟩)).setCell ⟨g,j*9+2,none⟩ (.slice none 0 0)).setCell ⟨g,j*9+3,none⟩ (.slice none 0 0)).setCell ⟨g,j*9+4,none⟩ (.int .u8 0)).setCell ⟨g,j*9+5,none⟩ (.int .i64 0)).setCell ⟨g,j*9+6,none⟩ (.string ⟨#[]⟩)).setCell ⟨g,j*9+7,none⟩ (.slice none 0 0)).setCell ⟨g,j*9+8,none⟩ (.bool false))):=Keeps.of_nine hn6 (by have:=HGl.out;omega)
   have HC6:Hid (CF ((((((((((w1.setCell ⟨g,j*9,none⟩ (.int .u8 99)).setCell ⟨g,j*9+1,none⟩ (.string ⟨#[115,112,111,105,108,116]⟩)).setCell ⟨g,j*9+2,none⟩ (.slice none 0 0)).setCell ⟨g,j*9+3,none⟩ (.slice none 0 0)).setCell ⟨g,j*9+4,none⟩ (.int .u8 0)).setCell ⟨g,j*9+5,none⟩ (.int .i64 0)).setCell ⟨g,j*9+6,none⟩ (.string ⟨#[]⟩)).setCell ⟨g,j*9+7,none⟩ (.slice none 0 0)).setCell ⟨g,j*9+8,none⟩ (.bool false))) mid hi r rest):=HC1.out.keeps (Keeps.of_nine (lo:=g) (hi:=g+1) hn6 (by omega)) (.inl (by have:=HGl.out;have:=HMid.out;omega))
   have HK6:Hid (Keeps lo hi w ((((((((((w1.setCell ⟨g,j*9,none⟩ (.int .u8 99)).setCell ⟨g,j*9+1,none⟩ (.string ⟨#[115,112,111,105,108,116]⟩)).setCell ⟨g,j*9+2,none⟩ (.slice none 0 0)).setCell ⟨g,j*9+3,none⟩ (.slice none 0 0)).setCell ⟨g,j*9+4,none⟩ (.int .u8 0)).setCell ⟨g,j*9+5,none⟩ (.int .i64 0)).setCell ⟨g,j*9+6,none⟩ (.string ⟨#[]⟩)).setCell ⟨g,j*9+7,none⟩ (.slice none 0 0)).setCell ⟨g,j*9+8,none⟩ (.bool false)))):=HK1.out.trans hk6
   have HO6:Hid (((((((((((w1.setCell ⟨g,j*9,none⟩ (.int .u8 99)).setCell ⟨g,j*9+1,none⟩ (.string ⟨#[115,112,111,105,108,116]⟩)).setCell ⟨g,j*9+2,none⟩ (.slice none 0 0)).setCell ⟨g,j*9+3,none⟩ (.slice none 0 0)).setCell ⟨g,j*9+4,none⟩ (.int .u8 0)).setCell ⟨g,j*9+5,none⟩ (.int .i64 0)).setCell ⟨g,j*9+6,none⟩ (.string ⟨#[]⟩)).setCell ⟨g,j*9+7,none⟩ (.slice none 0 0)).setCell ⟨g,j*9+8,none⟩ (.bool false))).ownsRow lo 36 9 (.slice (some ⟨g,0,none⟩) (f.len+1) (f.len+1)) (f.len+1) (spc sp9 (j+1)++(rest++sentF))):=h9
   have hgm:g<mid∧mid≤hi:=by have:=HGl.out;have:=HMid.out;omega
   clear h0 h1 h2 h3 h4 h5 h6 h7 h8 h9 e5 e6 hn6 hk6 hk1 f0 f1 f2 f3 f4 f5 f6 f7 f8 HCC lg hl
   go_wp2_with fail
   case roundEnd =>
   refine ⟨⟨j+1,r,rest,mid,by go_num,by omega,hgm.1,hgm.2,HO6,HC6,HAr2,HOr2,HK6⟩,?_⟩
   simp [intOf];omega
theorem spfo_all:∀g:Fm,EachF SpFo g
 | .nil=>trivial
 | .cons _ _ _ ks _ _ _ _ _ r=>⟨spoilO_of _ (spoilFs_of ks (spfo_all ks)),spfo_all r⟩
theorem spoilForm_any (f:Frm):SpFo f:=spoilO_of f (spoilFs_of f.kids (spfo_all f.kids))
end Go.Proofs.YtkgnigloboajcaaGreatDoor
