/- The walk of Read.; Same.; isDatum. -/
import Derived.Test.YtkgnigloboajcaaGreatDoorK09
set_option maxRecDepth 100000
set_option maxHeartbeats 4000000
namespace Go.Proofs.YtkgnigloboajcaaGreatDoor
open Go.RowKit
def Fo.size:Fo→Nat
 | .nil=>0
 | .cons _ _ _ s _ r=>s.size+r.size+1
def Rd (w:World):Nat→Nat→Fo→Prop
 | _,_, .nil=>True
 | b,o, .cons k n t s d r=>(b<w.heap.size∧w.cell? ⟨b,o,none⟩=some (.int .u8 k)∧w.cell? ⟨b,o+1,none⟩=some (.int .i64 n)∧w.cell? ⟨b,o+1+1,none⟩=some (S t)∧w.cell? ⟨b,o+1+1+1+1,none⟩=some (.bool d)∧s.len≤maxLen) ∧
   (∃rk ck b' o', w.cell? ⟨b,o+1+1+1,none⟩=some (.slice rk s.len ck)∧(s.len=0∨rk=some ⟨b', o', none⟩)∧Rd w b' o' s)∧Rd w b (o+5) r
def RS (w:World) (ra:Option Addr) (f:Fo):Prop:=∃b o,(f.len=0∨ra=some ⟨b,o,none⟩)∧Rd w b o f
theorem Rd.below {w w' : World} (hb:Below w.heap.size w w'):∀{b o:Nat} {f:Fo},Rd w b o f→Rd w' b o f
 | b,o, .nil,_=>trivial
 | b,o, .cons k n t s d r,⟨⟨h0,h1,h2,h3,h4,h5⟩,⟨rk,ck,b', o', hk,hz,hs⟩,hr⟩=>by
  have e:∀o,w'.cell? ⟨b,o,none⟩=w.cell? ⟨b,o,none⟩:=fun o=>hb.cell (p:=⟨b,o,none⟩) h0
  exact ⟨⟨Nat.lt_of_lt_of_le h0 hb.size,(e _).trans h1,(e _).trans h2,(e _).trans h3,(e _).trans h4,h5⟩,⟨rk,ck,b', o', (e _).trans hk,hz,Rd.below hb hs⟩,Rd.below hb hr⟩
theorem RS.below {w w' : World} {ra:Option Addr} {f:Fo} (h:RS w ra f) (hb:Below w.heap.size w w'):RS w' ra f:=by
 obtain ⟨b,o,h1,h2⟩:=h
 exact ⟨b,o,h1,h2.below hb⟩
def sameB (k n:Int) (t:List UInt8) (s:Fo) (d:Bool) (k' n' : Int) (t' : List UInt8) (s' : Fo) (d' : Bool):Bool:=k == k' && (n == n' && (decide (t=t') && (d == d' && s.same s')))
theorem same_cons (k n:Int) (t:List UInt8) (s:Fo) (d:Bool) (r:Fo) (k' n' : Int) (t' : List UInt8) (s' : Fo) (d' : Bool) (r' : Fo):(Fo.cons k n t s d r).same (.cons k' n' t' s' d' r')=(sameB k n t s d k' n' t' s' d' && r.same r'):=by
 have e:(t == t')=decide (t=t'):=by
  by_cases h:t=t'
  ·subst h;simp
  ·rw [decide_eq_false h,beq_eq_false_iff_ne];exact h
 simp only [Fo.same,sameB,e,Bool.and_assoc]
def SameC (N:Nat):Prop:=∀(k n:Int) (t:List UInt8) (s:Fo) (d:Bool) (rk:Option Addr) (ck:Nat) (k' n' : Int) (t' : List UInt8) (s' : Fo) (d' : Bool) (rk' : Option Addr) (ck' : Nat) (w:World),s.size≤N→s.len≤maxLen→s'.len≤maxLen→RS w rk s→RS w rk' s' →
 Calls Tryz.prog 178 #[.agg #[.int .u8 k, .int .i64 n,S t, .slice rk s.len ck, .bool d], .agg #[.int .u8 k', .int .i64 n', S t', .slice rk' s'.len ck', .bool d']] w fun e w' => e = .returned (.bool (sameB k n t s d k' n' t' s' d'))∧Below w.heap.size w w'
def EqC (N:Nat):Prop:=∀(f g:Fo) (ra:Option Addr) (ca:Nat) (rb:Option Addr) (cb:Nat) (w:World),f.size≤N→f.len≤maxLen→g.len≤maxLen→RS w ra f→RS w rb g →
 Calls Tryz.prog 187 #[.slice ra f.len ca, .slice rb g.len cb, .func (.func 178) #[] #[]] w fun e w' => e = .returned (.bool (f.same g))∧Below w.heap.size w w'
theorem same_of {N:Nat} (h:EqC N):SameC N:=by
 intro k n t s d rk ck k' n' t' s' d' rk' ck' w hN hm hm' hR hR'
 have HE:Hid (EqC N):=h
 have HR:Hid (RS w rk s):=hR
 have HR' : Hid (RS w rk' s'):=hR'
 clear h hR hR'
 unfold sameB
 cases h1:(k == k')
 ·go_enter Tryz.func178,Tryz.ntmps178
  go_wp2
  go_ret
  exact ⟨rfl,(((Below.refl _ w).alloc (Nat.le_refl _) _).alloc (by simp) _)⟩
 cases h2:(n == n')
 ·go_enter Tryz.func178,Tryz.ntmps178
  go_wp2
  go_ret
  exact ⟨rfl,(((Below.refl _ w).alloc (Nat.le_refl _) _).alloc (by simp) _)⟩
 by_cases h3:t=t'
 ·subst h3
  cases h4:(d == d')
  ·go_enter Tryz.func178,Tryz.ntmps178
   go_wp2
   go_ret
   exact ⟨by simp,(((Below.refl _ w).alloc (Nat.le_refl _) _).alloc (by simp) _)⟩
  ·go_enter Tryz.func178,Tryz.ntmps178
   go_wp2_with fail
   refine (HE.out s s' rk ck rk' ck' _ hN hm hm' (HR.out.below (((Below.refl _ w).alloc (Nat.le_refl _) _).alloc (by simp) _)) (HR'.out.below (((Below.refl _ w).alloc (Nat.le_refl _) _).alloc (by simp) _))).mono ?_
   rintro e w1 ⟨rfl,hb1⟩
   go_wp2
   go_ret
   exact ⟨by simp,((((Below.refl _ w).alloc (Nat.le_refl _) _).alloc (by simp) _)).trans (hb1.mono (by simp;omega))⟩
 ·have h3' : decide (t=t')=false:=decide_eq_false h3
  go_enter Tryz.func178,Tryz.ntmps178
  go_wp2
  go_ret
  exact ⟨by simp [h3],(((Below.refl _ w).alloc (Nat.le_refl _) _).alloc (by simp) _)⟩
theorem eq_of {N:Nat} (h:∀M,M<N→SameC M):EqC N:=by
 intro f g ra ca rb cb w hN hm hm' hR hR'
 have HS:Hid (∀M,M<N→SameC M):=h
 unfold maxLen at hm hm'
 by_cases hl:f.len=g.len
 ·obtain ⟨b,o,hab,hRd⟩:=hR
  obtain ⟨b', o', hab', hRd'⟩:=hR'
  have HRd:Hid (Rd w b o f):=hRd
  have HRd' : Hid (Rd w b' o' g):=hRd'
  have HLL:Hid (g.len=f.len):=hl.symm
  clear h hRd hRd'
  have hra:f.len≠0→ra=some ⟨b,o,none⟩:=fun h=>hab.resolve_left h
  have hrb:f.len≠0→rb=some ⟨b', o', none⟩:=fun h=>hab'.resolve_left (by rw [←hl];exact h)
  have Hra:Hid _:=hra
  have Hrb:Hid _:=hrb
  rw [←hl]
  clear hab hab' hra hrb hm' hl
  go_enter Tryz.func187,Tryz.ntmps187
  go_wp2
  go_loopw [17] (fun i wr=>∃(j:Nat) (fi gi:Fo),i = .int .i64 j∧fi.len+j=f.len∧gi.len=fi.len∧fi.size≤N∧Hid (Rd wr b (o+j*5) fi)∧Hid (Rd wr b' (o' + j*5) gi)∧Hid (f.same g=fi.same gi)∧Hid (Below w.heap.size w wr)) (fun i _=>f.len-(intOf i).toNat)
  case atStart=>exact ⟨0,f,g,rfl,by simp,HLL.out,hN,by simpa using HRd,by simpa using HRd', rfl,Below.refl _ _⟩
  case round =>
   obtain ⟨j,fi,gi,rfl,hj,hgl,hsz,HF,HG,HQ,HB⟩:=hrel
   cases fi with
   | nil =>
    have hg0:gi = .nil:=Fo.len0 (by simpa [Fo.len] using hgl)
    subst hg0
    have hj' : j=f.len:=by simpa [Fo.len] using hj
    have HJ:Hid _:=hj'
    have hjl:¬ ((j:Int)<(f.len:Int)):=by omega
    clear hj hj' hgl
    go_wp2
    go_ret
    exact ⟨by rw [HQ.out];rfl,HB.out⟩
   | cons k n t s d r =>
    cases gi with
    | nil=>simp [Fo.len] at hgl
    | cons k' n' t' s' d' r' =>
     obtain ⟨⟨h0,h1,h2,h3,h4,h5⟩,⟨rk,ck,bk,ok,hk,hz,hs⟩,hr⟩:=HF.out
     obtain ⟨⟨h0', h1', h2', h3', h4', h5'⟩,⟨rk', ck', bk', ok', hk', hz', hs'⟩,hr'⟩:=HG.out
     simp only [Fo.len] at hj hgl
     simp only [Fo.size] at hsz
     have hlt:j<f.len:=by omega
     have hra:=Hra.out (by omega)
     have hrb:=Hrb.out (by omega)
     subst hra hrb
     have i1:(j:Int)<(f.len:Int):=by omega
     have HRk:Hid (RS wr rk s):=⟨bk,ok,hz,hs⟩
     have HRk' : Hid (RS wr rk' s'):=⟨bk', ok', hz', hs'⟩
     have Hr:Hid _:=hr
     have Hr' : Hid _:=hr'
     clear hs hs' hr hr' hz hz' HF HG
     go_wp2_with fail
     refine (HS.out s.size (by omega) k n t s d rk ck k' n' t' s' d' rk' ck' _ (Nat.le_refl _) h5 h5' (HRk.out.below (((Below.refl _ wr).alloc (Nat.le_refl _) _).alloc (by simp) _)) (HRk'.out.below (((Below.refl _ wr).alloc (Nat.le_refl _) _).alloc (by simp) _))).mono ?_
     rintro e w1 ⟨rfl,hb1⟩
     have HW:Hid (Below wr.heap.size wr w1):=(((Below.refl _ wr).alloc (Nat.le_refl _) _).alloc (by simp) _).trans (hb1.mono (by simp;omega))
     have HB1:Hid (Below w.heap.size w w1):=HB.out.trans (HW.out.mono HB.out.size)
     clear hb1 h1 h2 h3 h4 hk h1' h2' h3' h4' hk'
     cases hsb:sameB k n t s d k' n' t' s' d'
     ·have HS2:Hid _:=hsb
      clear hsb
      go_wp2
      go_ret
      exact ⟨by rw [HQ.out,same_cons,HS2.out];rfl,HB1.out⟩
     ·have HS2:Hid _:=hsb
      clear hsb
      go_wp2
      go_roundw
      case rel=>exact ⟨j+1,r,r', by go_num,by omega,by omega,by omega,by rw [show o+(j+1)*5=o+j*5+5 by omega];exact Hr.out.below HW.out,by rw [show o' + (j+1)*5=o' + j*5+5 by omega];exact Hr'.out.below HW.out,by show _=_;rw [HQ.out,same_cons,HS2.out];rfl,HB1⟩
      case measure=>simp [intOf];omega
 ·have hne:f.same g=false:=by
   cases hs:f.same g with
   | false=>rfl
   | true=>exact absurd (by rw [(Fo.same_iff f g).1 hs]) hl
  rw [hne]
  have h2:((f.len:Int) == (g.len:Int))=false:=by simp;omega
  clear h hR hR' HS
  go_enter Tryz.func187,Tryz.ntmps187
  go_wp2
  go_ret
  exact ⟨rfl,Below.refl _ _⟩
theorem eq_all:∀N,EqC N:=fun N=>by
 induction N using Nat.strongRecOn with
 | _ N ih=>exact eq_of (fun M hM=>same_of (ih M hM))
theorem same_any (k n:Int) (t:List UInt8) (s:Fo) (d:Bool) (rk:Option Addr) (ck:Nat) (k' n' : Int) (t' : List UInt8) (s' : Fo) (d' : Bool) (rk' : Option Addr) (ck' : Nat) (w:World) (hm:s.len≤maxLen) (hm' : s'.len≤maxLen) (hR:RS w rk s) (hR' : RS w rk' s') :
  Calls Tryz.prog 178 #[.agg #[.int .u8 k, .int .i64 n,S t, .slice rk s.len ck, .bool d], .agg #[.int .u8 k', .int .i64 n', S t', .slice rk' s'.len ck', .bool d']] w fun e w' => e = .returned (.bool (sameB k n t s d k' n' t' s' d'))∧Below w.heap.size w w' :=
 same_of (eq_all s.size) k n t s d rk ck k' n' t' s' d' rk' ck' w (Nat.le_refl _) hm hm' hR hR'
def lastK (z:Int):Fo→Int
 | .nil=>z
 | .cons k _ _ _ _ r=>lastK k r
def hasT (f:Fo):Bool:=decide (2≤f.len) && lastK 0 f != 5
def symB (l:List UInt8):Bool:=begE l == 0 && ((begT l).kind == 6 && ((begS l:Nat):Int) == (l.length:Int))
def isDat (k n:Int) (t:List UInt8) (s:Fo) (d:Bool):Bool :=
 if k=1 then sameB k n t s d k n [] .nil false && (decide (-576460752303423488≤n) && decide (n≤576460752303423487))
 else if k=2 then sameB k n t s d 2 0 t .nil false && symB t
 else if k=3∨k=4 then sameB k n t s d k 0 [] .nil false
 else if k=5 then n == 0 && (decide (t=[]) && (!d || hasT s))
 else false
theorem Rd.last {w:World}:∀{f:Fo} {b o m:Nat} (z:Int),Rd w b o f→f.len=m+1→w.cell? ⟨b,o+m*5,none⟩=some (.int .u8 (lastK z f))
 | .nil,b,o,m,z,_,h=>by simp [Fo.len] at h
 | .cons k n t s d r,b,o,m,z,⟨⟨_,h1,_⟩,_,hr⟩,h=>by
  cases r with
  | nil =>
   have:m=0:=by simpa [Fo.len] using h.symm
   subst this
   simpa [lastK] using h1
  | cons k' n' t' s' d' r' =>
   obtain ⟨m', rfl⟩:∃m', m=m' + 1:=⟨m-1,by simp [Fo.len] at h;omega⟩
   have:=Rd.last k hr (m:=m') (by simp [Fo.len] at h ⊢; omega)
   rw [show o+5+m' * 5=o+(m' + 1)*5 by omega] at this
   exact this
theorem hasTail_any (ra:Option Addr) (c:Nat) (f:Fo) (w:World) (hm:f.len≤maxLen) (hR:RS w ra f) :
  Calls Tryz.prog 181 #[.slice ra f.len c] w fun e w' => e = .returned (.bool (hasT f))∧w' = w:=by
 unfold maxLen at hm
 obtain ⟨b,o,hz,hRd⟩:=hR
 unfold hasT
 by_cases h2:2≤f.len
 ·have d2:decide (2≤f.len)=true:=decide_eq_true h2
  obtain ⟨m,hfm⟩:∃m,f.len=m+1:=⟨f.len-1,by omega⟩
  have hl:=hRd.last 0 hfm
  have hra:ra=some ⟨b,o,none⟩:=hz.resolve_left (by omega)
  subst hra
  obtain ⟨z,hzk⟩:∃z,lastK 0 f=z:=⟨_,rfl⟩
  rw [hzk] at hl ⊢
  rw [hfm] at h2 hm d2 ⊢
  rw [d2]
  clear hRd hfm hzk hz d2
  have i1:(m:Int)<(m:Int)+1:=by omega
  have i2:(2:Int)≤(m:Int)+1:=by omega
  go_enter Tryz.func181,Tryz.ntmps181
  go_wp2
  go_ret
  exact ⟨by simp,rfl⟩
 ·have d2:decide (2≤f.len)=false:=decide_eq_false h2
  rw [d2]
  clear hRd hz d2
  go_enter Tryz.func181,Tryz.ntmps181
  go_wp2
  go_ret
  exact ⟨rfl,rfl⟩
end Go.Proofs.YtkgnigloboajcaaGreatDoor
