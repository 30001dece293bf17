/-
  What a taking of a state does to any bytes: what is left, the error, the state; that what is read is written as it was, and what is written is read. No program but a string's bytes.
-/
import Derived.Test.YtnjdckoljmgcjaaGreatDoorW17
set_option maxRecDepth 100000
set_option maxHeartbeats 4000000
namespace Go.Proofs.YtnjdckoljmgcjaaGreatDoor
open Go.ChangeShapes Go.WideShapes Go.ChangeAt Go.RowKit
theorem InAt.put2 {w:World} {g:Nat} {l:List Nat} {e:Nat} (h:InAt w g l e) {r:Nat} (hr:g<r) (a b:Value):InAt ((w.setCell ⟨r,0,none⟩ a).setCell ⟨r,1,none⟩ b) g l e :=
 h.keep (Below.setCell (p:=⟨r,1,none⟩) (Below.setCell (p:=⟨r,0,none⟩) (Below.refl _ _) hr _) hr _)
theorem zgN {a w:World} {g r:Nat} (h:a.grownBy w (some g)) (hr:a.heap.size≤r) (x y:Value):a.grownBy ((w.setCell ⟨r,0,none⟩ x).setCell ⟨r,1,none⟩ y) (some g) :=
 zaD (p:=⟨r,1,none⟩) (zaD (p:=⟨r,0,none⟩) h (.inr hr) x) (.inr hr) y
def zcB (l:List Nat) (e:Nat):List Nat × Nat:=if 6<(zbc l e).2.2 then (zbs (zbc l e).2.1 12 (zbc l e).1,zay (zbc l e).2.1 12) else ((zbc l e).1,(zbc l e).2.1)
def zdj (l:List Nat) (e:Nat):List Nat × Nat × Nat:=zal (zcB l e).1 (zcB l e).2 1023
def zgn (l:List Nat) (e:Nat):List Nat × Nat × Nat × Nat :=
 ((zdj l e).1,(zdj l e).2.1,if (zdj l e).2.1=0 then ((zbc l e).2.2,(zdj l e).2.2) else (0,0))
def zb6 (l:List Nat) (e:Nat):List Nat × Nat × Nat :=
 if zcC (zal l e 4294967295).2.2 then zal l e 4294967295 else (zbs (zal l e 4294967295).2.1 60 (zal l e 4294967295).1,zay (zal l e 4294967295).2.1 60,0)
theorem zig {l:List Nat} {e:Nat} (hf:Fine l e) (h8:∀x∈l,x<256):Fine (zbc l e).1 (zbc l e).2.1∧(∀x∈(zbc l e).1,x<256)∧(zbc l e).1.length≤l.length∧(zbc l e).2.2<256∧(6<(zbc l e).2.2→(zbc l e).2.1=0):=by
 cases l with
 | nil=>exact ⟨fun _=>rfl,fun x hx=>by simp [zbc] at hx,Nat.le_refl _,by simp [zbc],fun h=>by simp [zbc] at h⟩
 | cons b t =>
  have he:=zdb hf (by simp)
  subst he
  exact ⟨fun h=>absurd rfl h,fun x hx=>h8 x (List.mem_cons_of_mem _ hx),by simp [zbc],h8 b (by simp),fun _=>rfl⟩
theorem zn2 {l:List Nat} {e x:Nat} (hx:0<x) (hf:Fine l e):Fine (zbs e x l) (zay e x):=fun _=>zdU hx (fun h=>hf h)
theorem zsx {l:List Nat} {e x:Nat}:∀y∈zbs e x l,y∈l:=by
 unfold zbs;split
 ·intro y hy;cases hy
 ·exact fun y hy=>hy
theorem zoW {l:List Nat} {e x:Nat}:(zbs e x l).length≤l.length:=by
 unfold zbs;split
 ·simp
 ·exact Nat.le_refl _
theorem zkb {l:List Nat} {e:Nat} (hf:Fine l e) (h8:∀x∈l,x<256):Fine (zcB l e).1 (zcB l e).2∧(∀x∈(zcB l e).1,x<256)∧(zcB l e).1.length≤l.length:=by
 obtain ⟨h1,h2,h3,_,_⟩:=zig hf h8
 unfold zcB
 split
 ·exact ⟨zn2 (by decide) h1,fun x hx=>h2 x (zsx x hx),Nat.le_trans zoW h3⟩
 ·exact ⟨h1,h2,h3⟩
theorem zqY (g:Nat) (l:List Nat) (e:Nat) (l1 l2 l3:List Nat) (e1 e2 e3 r s:Nat) (w:World) (h:InAt w g l e) (hf:Fine l e) (hb:zbc l e=(l1,e1,r)) (hr:r<256)
  (hm:(if 6<r then (zbs e1 12 l1,zay e1 12) else (l1,e1))=(l2,e2)) (hs:zal l2 e2 1023=(l3,e3,s)) (hf2:Fine l2 e2) (h2:∀x∈l2,x<256) (hl2:l2.length≤9223372036854775807) :
  Calls Tryz.prog 119 #[.pointer (some ⟨g,0,none⟩)] w (zbE (fun en=>en=.returned (if e3=0 then nm r s else nm 0 0)) g l3 e3 w):=by
 have hs1:s≤1023:=by have:=zce (l:=l2) (e:=e2) (most:=1023);rw [hs] at this;exact this
 obtain ⟨x,hx⟩:∃x,repB (r:Int)=x:=⟨_,rfl⟩
 have HX:=hid hx
 have HI:=hid h
 have hgl:=h.lt
 have HI0:=hid (h.keep ((Below.refl _ _).alloc (by omega) (.cells #[.int .i64 0,.int .i64 0] 55)))
 have HF:=hid hf
 have HB:=hid hb
 have HS:=hid hs
 have HF2:=hid hf2
 have H2:=hid h2
 have HM:=hid hm
 clear hx h hf hb hs hf2 h2 hm
 go_enter Tryz.func119,Tryz.ntmps119
 go_wp2_with fail
 with_reducible refine (zfq g l e l1 e1 r _ HI0.out HF.out HB.out).mono ?_
 rintro en w1 ⟨rfl,hi1,hg1⟩
 have HG1:=hid ((zam ((Below.refl w.heap.size w).alloc (Nat.le_refl _) (.cells #[.int .i64 0,.int .i64 0] 55)) (some g)).trans hg1)
 have K1:=hid ((Blk.new w 55 #[.int .i64 0,.int .i64 0]).grown hg1 (by simp;omega))
 have HI1:=hid hi1
 clear hi1 hg1 HI0
 cases x
 ·have h6:6<r:=by have:=HX.out;unfold repB at this;rw [decide_eq_false_iff_not] at this;omega
  have hm1:zbs e1 12 l1=l2∧zay e1 12=e2:=by have:=HM.out;rw [if_pos h6] at this;simpa using this
  have HL:=hid hm1.1
  have HE:=hid hm1.2
  have h0:e3≠0:=by
   intro h0
   have hp:=zbF (e:=e1) (x:=12) (by decide)
   rw [hm1.2] at hp
   have hn:l2=[]:=HF2.out (by omega)
   have:=HS.out
   subst hn
   unfold zal at this
   rw [if_neg (show ¬(zbQ ([]:List Nat)).2.2=0 by decide)] at this
   simp only [Prod.mk.injEq] at this
   have h4:=zbF (e:=e2) (x:=(zbQ ([]:List Nat)).2.2) (by decide)
   omega
  clear hm1
  go_wp2_with fail
  with_reducible refine (zcW r _).mono ?_
  rintro en w2 ⟨rfl,rfl⟩
  rw [HX.out]
  go_wp2_with fail
  with_reducible refine (zbI g l1 e1 12 12 _ HI1.out rfl).mono ?_
  rw [HL.out,HE.out]
  rintro en w2 ⟨rfl,hi2,hg2⟩
  have HG2:=hid (HG1.out.trans hg2)
  have K2:=hid (K1.out.grown hg2 (by simp;omega))
  have HI2:=hid hi2
  clear hi2 hg2 HI1 K1 HG1
  go_wp2_with fail
  with_reducible refine (za6 g l2 e2 1023 1023 l3 e3 s _ HI2.out HF2.out H2.out hl2 rfl HS.out).mono ?_
  rintro en w3 ⟨rfl,hi3,hg3⟩
  have HG3:=hid (HG2.out.trans hg3)
  have K3:=hid (K2.out.grown hg3 (by simp;omega))
  have HI3:=hid hi3
  clear hi3 hg3 HI2 K2 HG2
  go_wp2_with fail
  with_reducible refine (zaU g l3 e3 _ HI3.out (by omega)).mono ?_
  rintro en w4 ⟨rfl,rfl⟩
  obtain ⟨⟨c0,c1⟩,f0,f1⟩:=blkn K3.out
  go_wp2
  refine bodyPost_ret (v:=nm 0 0) (by simp [results,Tryz.results119,go_sem,c0,c1]) rfl ⟨rfl,HI3.out.put2 hgl _ _,zgN HG3.out (Nat.le_refl _) _ _⟩
 ·have h6:¬6<r:=by have:=HX.out;unfold repB at this;rw [decide_eq_true_eq] at this;omega
  have hm1:l1=l2∧e1=e2:=by have:=HM.out;rw [if_neg h6] at this;simpa using this
  obtain ⟨rfl,rfl⟩:=hm1
  clear HM
  go_wp2_with fail
  with_reducible refine (zcW r _).mono ?_
  rintro en w2 ⟨rfl,rfl⟩
  rw [HX.out]
  go_wp2_with fail
  with_reducible refine (za6 g l1 e1 1023 1023 l3 e3 s _ HI1.out HF2.out H2.out hl2 rfl HS.out).mono ?_
  rintro en w3 ⟨rfl,hi3,hg3⟩
  have HG3:=hid (HG1.out.trans hg3)
  have K3:=hid (K1.out.grown hg3 (by simp;omega))
  have HI3:=hid hi3
  clear hi3 hg3 HI1 K1 HG1
  by_cases h0:e3=0
  ·subst h0
   go_wp2_with fail
   with_reducible refine (zcL g l3 _ HI3.out).mono ?_
   rintro en w4 ⟨rfl,rfl⟩
   obtain ⟨⟨c0,c1⟩,f0,f1⟩:=blkn K3.out
   go_wp2
   refine bodyPost_ret (v:=nm r s) (by simp [results,Tryz.results119,go_sem,c0,c1]) rfl ⟨rfl,HI3.out.put2 hgl _ _,zgN HG3.out (Nat.le_refl _) _ _⟩
  ·go_wp2_with fail
   with_reducible refine (zaU g l3 e3 _ HI3.out (by omega)).mono ?_
   rintro en w4 ⟨rfl,rfl⟩
   obtain ⟨⟨c0,c1⟩,f0,f1⟩:=blkn K3.out
   go_wp2
   refine bodyPost_ret (v:=nm 0 0) (by simp [results,Tryz.results119,go_sem,c0,c1]) rfl ⟨rfl,HI3.out.put2 hgl _ _,zgN HG3.out (Nat.le_refl _) _ _⟩
theorem zil (g:Nat) (l:List Nat) (e:Nat) (l':List Nat) (e' r s:Nat) (w:World) (h:InAt w g l e) (hf:Fine l e) (h8:∀x∈l,x<256) (hl:l.length≤9223372036854775807) (hs:zgn l e=(l',e',r,s)) :
  Calls Tryz.prog 119 #[.pointer (some ⟨g,0,none⟩)] w (zbE (fun en=>en=.returned (nm r s)) g l' e' w):=by
 obtain ⟨h1,h2,h3,h4,h5⟩:=zig hf h8
 obtain ⟨m1,m2,m3⟩:=zkb hf h8
 have hc:=zqY g l e (zbc l e).1 (zcB l e).1 (zdj l e).1 (zbc l e).2.1 (zcB l e).2 (zdj l e).2.1 (zbc l e).2.2 (zdj l e).2.2 w h hf rfl h4 rfl rfl m1 m2 (by omega)
 unfold zgn at hs
 simp only [Prod.mk.injEq] at hs
 obtain ⟨rfl,rfl,hv⟩:=hs
 refine hc.mono fun en w' hh=>⟨?_,hh.2⟩
 have h6:=hh.1
 dsimp only at h6
 rw [h6]
 split at hv <;> rename_i c
 ·rw [if_pos c];simp only [Prod.mk.injEq] at hv;rw [hv.1,hv.2]
 ·rw [if_neg c];simp only [Prod.mk.injEq] at hv;obtain ⟨rfl,rfl⟩:=hv;rfl
theorem ztP:zcC 0=true:=by decide
theorem zcF (g:Nat) (l:List Nat) (e:Nat) (l':List Nat) (e' v':Nat) (w:World) (h:InAt w g l e) (hf:Fine l e) (h8:∀x∈l,x<256) (hl:l.length≤9223372036854775807) (hs:zb6 l e=(l',e',v')) :
  Calls Tryz.prog 120 #[.pointer (some ⟨g,0,none⟩)] w (zbE (fun en=>en=.returned (.int .u32 (v':Int))) g l' e' w):=by
 obtain ⟨l1,e1,v,hv⟩:∃l1 e1 v,zal l e 4294967295=(l1,e1,v):=⟨_,_,_,rfl⟩
 have hm:v≤4294967295:=by have:=zce (l:=l) (e:=e) (most:=4294967295);rw [hv] at this;exact this
 have hbad:e1≠0→l1=[]∧v=0:=by intro h0;have:=zeM (l:=l) (e:=e) (most:=4294967295) (by rw [hv];exact h0) hf;rw [hv] at this;exact this
 have HI:=hid h
 have HF:=hid hf
 have H8:=hid h8
 have HV:=hid hv
 have HBAD:=hid hbad
 have HS:=hid hs
 obtain ⟨x,hx⟩:∃x,zcC v=x:=⟨_,rfl⟩
 have HX:=hid hx
 clear h hf h8 hv hs hx hbad
 go_enter Tryz.func120,Tryz.ntmps120
 go_wp2_with fail
 with_reducible refine (za6 g l e 4294967295 4294967295 l1 e1 v _ HI.out HF.out H8.out hl rfl HV.out).mono ?_
 rintro en w1 ⟨rfl,hi1,hg1⟩
 have HI1:=hid hi1
 have HG1:=hid hg1
 clear hi1 hg1
 cases x
 ·have he1:e1=0:=by
   rcases Decidable.em (e1=0) with h0 | h0
   ·exact h0
   ·have:=(HBAD.out h0).2;subst this;have:=HX.out;rw [ztP] at this;cases this
  have hs2:zbs e1 60 l1=l'∧zay e1 60=e'∧v'=0:=by
   have:=HS.out
   unfold zb6 at this
   rw [HV.out] at this
   simp only [HX.out,Bool.false_eq_true,if_false,Prod.mk.injEq] at this
   exact ⟨this.1,this.2.1,this.2.2.symm⟩
  have HL:=hid hs2.1
  have HE:=hid hs2.2.1
  obtain rfl:=hs2.2.2
  have hp:0<e':=by rw [←hs2.2.1];exact zbF (by decide)
  clear hs2 HBAD HS
  go_wp2_with fail
  with_reducible refine (zdo v _ (by omega)).mono ?_
  rintro en w2 ⟨rfl,rfl⟩
  rw [HX.out]
  go_wp2_with fail
  with_reducible refine (zbI g l1 e1 60 60 _ HI1.out rfl).mono ?_
  rw [HL.out,HE.out]
  rintro en w2 ⟨rfl,hi2,hg2⟩
  have HG2:=hid (HG1.out.trans hg2)
  have HI2:=hid hi2
  clear hi2 hg2
  go_wp2_with fail
  with_reducible refine (zaU g l' e' _ HI2.out hp).mono ?_
  rintro en w4 ⟨rfl,rfl⟩
  go_wp2
  go_ret
  exact ⟨rfl,HI2.out,HG2.out⟩
 ·have hs2:l1=l'∧e1=e'∧v=v':=by
   have:=HS.out
   unfold zb6 at this
   rw [HV.out] at this
   simp only [HX.out,if_true,Prod.mk.injEq] at this
   exact this
  obtain ⟨rfl,rfl,rfl⟩:=hs2
  clear HS
  go_wp2_with fail
  with_reducible refine (zdo v _ (by omega)).mono ?_
  rintro en w2 ⟨rfl,rfl⟩
  rw [HX.out]
  by_cases h0:e1=0
  ·subst h0
   go_wp2_with fail
   with_reducible refine (zcL g l1 _ HI1.out).mono ?_
   rintro en w4 ⟨rfl,rfl⟩
   go_wp2
   go_ret
   exact ⟨rfl,HI1.out,HG1.out⟩
  ·obtain rfl:=(HBAD.out h0).2
   go_wp2_with fail
   with_reducible refine (zaU g l1 e1 _ HI1.out (by omega)).mono ?_
   rintro en w4 ⟨rfl,rfl⟩
   go_wp2
   go_ret
   exact ⟨rfl,HI1.out,HG1.out⟩
end Go.Proofs.YtnjdckoljmgcjaaGreatDoor
namespace Go.Proofs.YtnjdckoljmgcjaaGreatDoor
open Go.ChangeShapes Go.WideShapes Go.ChangeAt Go.RowKit
set_option linter.unusedVariables false
set_option linter.unusedSimpArgs false
theorem zcd {a w:World} {g r:Nat} {cs:Array Value} (h:a.grownBy w (some g)) (hr:a.heap.size≤r):a.grownBy (w.setRow r cs) (some g) :=
 ⟨h.os,h.tape,h.output,by simpa using h.size,fun i hi hne=>(setRow_other w r i cs (by omega)).trans (h.block i hi hne)⟩
theorem InAt.setRow {w:World} {g r:Nat} {l:List Nat} {e:Nat} {cs:Array Value} (h:InAt w g l e) (hr:g<r):InAt (w.setRow r cs) g l e:=h.keep (zak (Below.refl _ _) hr)
theorem InAt.setCell {w:World} {g r i:Nat} {l:List Nat} {e:Nat} {x:Value} (h:InAt w g l e) (hr:g<r):InAt (w.setCell ⟨r,i,none⟩ x) g l e:=h.keep (Below.setCell (p:=⟨r,i,none⟩) (Below.refl _ _) hr _)
def stA (l:List Nat) (e:Nat):Nat→List Nat × Nat × (Nat→Int)
 | 0=>((zal l e 1073741824).1,(zal l e 1073741824).2.1,upd (fun _=>0) 0 ((zal l e 1073741824).2.2:Nat))
 | j+1=>((zal (stA l e j).1 (stA l e j).2.1 1024).1,(zal (stA l e j).1 (stA l e j).2.1 1024).2.1,upd (stA l e j).2.2 (1+j) ((zal (stA l e j).1 (stA l e j).2.1 1024).2.2:Nat))
def endA (s:List Nat × Nat × (Nat→Int)):List Nat × Nat × (Nat→Int):=(s.1,s.2.1,if s.2.1=0 then s.2.2 else fun _=>0)
def zgo (l:List Nat) (e:Nat):List Nat × Nat × (Nat→Int):=endA (stA l e 7)
theorem zjF (l:List Nat) (e:Nat):(zgo l e).1=(stA l e 7).1∧(zgo l e).2.1=(stA l e 7).2.1∧(zgo l e).2.2=if (stA l e 7).2.1=0 then (stA l e 7).2.2 else fun _=>0:=by
 unfold zgo
 generalize stA l e 7=s
 exact ⟨rfl,rfl,rfl⟩
theorem ziv {l:List Nat} {e most:Nat} (hf:Fine l e) (h8:∀x∈l,x<256):Fine (zal l e most).1 (zal l e most).2.1∧(∀x∈(zal l e most).1,x<256)∧(zal l e most).1.length≤l.length :=
 ⟨fun h=>(zeM h hf).1,fun x hx=>h8 x (zjD x hx),ziz⟩
theorem zjq {l:List Nat} {e:Nat} (hf:Fine l e) (h8:∀x∈l,x<256):∀j,Fine (stA l e j).1 (stA l e j).2.1∧(∀x∈(stA l e j).1,x<256)∧(stA l e j).1.length≤l.length
 | 0=>ziv hf h8
 | j+1=>by
  obtain ⟨h1,h2,h3⟩:=zjq hf h8 j
  obtain ⟨k1,k2,k3⟩:=ziv (most:=1024) h1 h2
  exact ⟨k1,k2,Nat.le_trans k3 h3⟩
theorem zlS (v:Int):(#[.int .i64 v,.int .i64 0,.int .i64 0,.int .i64 0,.int .i64 0,.int .i64 0,.int .i64 0,.int .i64 0]:Array Value)=rowA (upd (fun _=>0) 0 v):=rfl
theorem zoy (S:Nat→List Nat × Nat × (Nat→Int)) (g:Nat) (l:List Nat) (e:Nat) (l':List Nat) (e':Nat) (V:Nat→Int) (w:World) (h:InAt w g l e) (hf:Fine l e) (h8:∀x∈l,x<256) (hl:l.length≤9223372036854775807)
  (hz:(S 0).1=(zal l e 1073741824).1∧(S 0).2.1=(zal l e 1073741824).2.1∧(S 0).2.2=upd (fun _=>0) 0 ((zal l e 1073741824).2.2:Nat))
  (hn:∀j,(S (j+1)).1=(zal (S j).1 (S j).2.1 1024).1∧(S (j+1)).2.1=(zal (S j).1 (S j).2.1 1024).2.1∧(S (j+1)).2.2=upd (S j).2.2 (1+j) ((zal (S j).1 (S j).2.1 1024).2.2:Nat))
  (hfn:∀j,Fine (S j).1 (S j).2.1∧(∀x∈(S j).1,x<256)∧(S j).1.length≤l.length) (hE:l'=(S 7).1∧e'=(S 7).2.1∧V=if (S 7).2.1=0 then (S 7).2.2 else fun _=>0) :
  Calls Tryz.prog 124 #[.pointer (some ⟨g,0,none⟩)] w (zbE (fun en=>en=.returned (.agg (rowA V))) g l' e' w):=by
 obtain ⟨l1,e1,v1,hs1⟩:∃l1 e1 v1,zal l e 1073741824=(l1,e1,v1):=⟨_,_,_,rfl⟩
 have hm1:v1≤1073741824:=by have:=zce (l:=l) (e:=e) (most:=1073741824);rw [hs1] at this;exact this
 rw [hs1] at hz
 have HS0:=hid hz
 have HNX:=hid hn
 have HFN:=hid hfn
 have HEN:=hid hE
 have hgl:=h.lt
 have HI0:=hid (h.keep ((Below.refl _ _).alloc (by omega) (.cells #[.int .i64 0,.int .i64 0,.int .i64 0,.int .i64 0,.int .i64 0,.int .i64 0,.int .i64 0,.int .i64 0] 64)))
 have HF:=hid hf
 have H8:=hid h8
 have HS1:=hid hs1
 obtain ⟨k,hk⟩:∃k,w.heap.size=k:=⟨_,rfl⟩
 have HK:=hid hk
 have hgk:g<k:=by omega
 clear h hf h8 hs1 hgl hz hn hfn hE
 go_enter Tryz.func124,Tryz.ntmps124
 go_wp2_with fail
 with_reducible refine (za6 g l e 1073741824 1073741824 l1 e1 v1 _ HI0.out HF.out H8.out hl rfl HS1.out).mono ?_
 rintro en w1 ⟨rfl,hi1,hg1⟩
 have HG1:=hid ((zam ((Below.refl w.heap.size w).alloc (Nat.le_refl _) (.cells #[.int .i64 0,.int .i64 0,.int .i64 0,.int .i64 0,.int .i64 0,.int .i64 0,.int .i64 0,.int .i64 0] 64)) (some g)).trans hg1)
 have K1:=(Blk.new w 64 #[.int .i64 0,.int .i64 0,.int .i64 0,.int .i64 0,.int .i64 0,.int .i64 0,.int .i64 0,.int .i64 0]).grown hg1 (by simp;omega)
 rw [zhk] at K1
 rw [hk] at K1
 have K1:=hid K1
 have HI1:=hid hi1
 clear hi1 hg1 HI0 hk
 go_upto_region 2 with fail
 obtain ⟨W2,hW2⟩:∃W2,w1.alloc (.cells #[.int .i64 (v1:Int),.int .i64 0,.int .i64 0,.int .i64 0,.int .i64 0,.int .i64 0,.int .i64 0,.int .i64 0] 64)=W2:=⟨_,rfl⟩
 rw [hW2]
 obtain ⟨M2,hb2⟩:=za1 hW2
 have hkm:k<w1.heap.size:=K1.out.lt
 have K2:=hid (K1.out.below hb2.out K1.out.lt)
 have HI2:=hid (HI1.out.keep (hb2.out.mono HI1.out.lt))
 have HG2:=hid (zb2 HG1.out hb2.out)
 obtain ⟨m,hm⟩:∃m,w1.heap.size=m:=⟨_,rfl⟩
 rw [hm] at M2 hkm ⊢
 rw [zlS] at M2
 clear hW2 hb2 hm K1 HI1 HG1
 go_wp2_with fail
 go_loopw [9] (fun iv wr=>∃j:Nat,j≤7∧iv=.int .i64 j∧Hid (Blk wr k 64 (rowA fun _=>0))∧Hid (Blk wr m 64 (rowA (S j).2.2))∧Hid (InAt wr g (S j).1 (S j).2.1)∧Hid (w.grownBy wr (some g))) (fun iv _=>7 - (intOf iv).toNat)
 case atStart=>exact ⟨0,by omega,rfl,K2,hid (by rw [HS0.out.2.2];exact M2.out),hid (by rw [HS0.out.1,HS0.out.2.1];exact HI2.out),HG2⟩
 case round =>
  obtain ⟨j,hj,rfl,K,M,I,G⟩:=hrel
  have hfn:=HFN.out j
  by_cases hlt:j<7
  ·have HR:=hid (HNX.out j)
   obtain ⟨lj,hlj⟩:∃x,(S j).1=x:=⟨_,rfl⟩
   obtain ⟨ej,hej⟩:∃x,(S j).2.1=x:=⟨_,rfl⟩
   obtain ⟨F,hF⟩:∃x,(S j).2.2=x:=⟨_,rfl⟩
   rw [hlj,hej] at I hfn
   rw [hF] at M
   rw [hlj,hej,hF] at HR
   obtain ⟨l2,e2,v2,hs2⟩:∃l2 e2 v2,zal lj ej 1024=(l2,e2,v2):=⟨_,_,_,rfl⟩
   have hm2:v2≤1024:=by have:=zce (l:=lj) (e:=ej) (most:=1024);rw [hs2] at this;exact this
   rw [hs2] at HR
   have HS:=hid hs2
   have F1:=hid hfn.1
   have F2:=hid hfn.2.1
   have hl2:lj.length≤9223372036854775807:=Nat.le_trans hfn.2.2 hl
   clear hlj hej hF hs2 hfn
   go_wp2_with fail
   with_reducible refine (za6 g lj ej 1024 1024 l2 e2 v2 _ I.out F1.out F2.out hl2 rfl HS.out).mono ?_
   rintro en w3 ⟨rfl,hi,hg⟩
   have N0:=hid (K.out.grown hg (by simp;omega))
   have N1:=hid (M.out.grown hg (by simp;omega))
   have N2:=hid hi
   have N3:=hid (G.out.trans hg)
   clear hi hg
   have q0:=N1.out.att (i:=1+j) (by omega)
   have q1:=N1.out.frozen (1+j)
   have L0:=hid (N0.out.far (p:=⟨m,1+j,none⟩) (by simp <;> omega) (.int .i64 (v2:Int)))
   have L1:=hid (N1.out.attSet (1+j) (v2:Int))
   have L2:=hid (N2.out.setCell (r:=m) (i:=1+j) (x:=.int .i64 (v2:Int)) (by omega))
   have L3:=hid (zaD (p:=⟨m,1+j,none⟩) N3.out (.inr (show w.heap.size≤m by have:=HK.out;omega)) (.int .i64 (v2:Int)))
   go_wp2
   go_roundw
   case rel=>exact ⟨j+1,by omega,by go_num,L0,hid (by rw [HR.out.2.2];exact L1.out),hid (by rw [HR.out.1,HR.out.2.1];exact L2.out),L3⟩
   case measure=>simp only [intOf];omega
  ·have hj7:j=7:=by omega
   subst hj7
   have HR:=HEN
   obtain ⟨lj,hlj⟩:∃x,(S 7).1=x:=⟨_,rfl⟩
   obtain ⟨ej,hej⟩:∃x,(S 7).2.1=x:=⟨_,rfl⟩
   obtain ⟨F,hF⟩:∃x,(S 7).2.2=x:=⟨_,rfl⟩
   rw [hlj,hej] at I
   rw [hF] at M
   rw [hlj,hej,hF] at HR
   clear hlj hej hF hfn
   by_cases h0:ej=0
   ·subst h0
    have HV:Hid (V=F):=hid (by rw [HR.out.2.2];simp)
    have Z1:=hid (zml F)
    have Z2:=hid (zgG F)
    have Z3:=hid (zdF F)
    go_wp2_with fail
    with_reducible refine (zcL g lj _ I.out).mono ?_
    rintro en w4 ⟨rfl,rfl⟩
    go_wp2_with (first
     | (with_reducible refine wpList_load_row (o:=⟨some 22,_,_,_,_,_⟩) rfl 64 (.tmp 3) rfl m rfl 64 (rowA F) (0,0) _ M.out.heap Tryz.underlying64 rfl Z1.out ?_)
     | (with_reducible refine wpList_store_row (o:=⟨none,_,_,_,_,_⟩) rfl 64 (.tmp 2) (.tmp 22) rfl k (rowA F) rfl rfl 64 _ K.out.heap Z1.out Z2.out Z3.out ?_))
    exact bodyPost_ret (v:=.agg (rowA F)) (results_cell_row (p:=2) (ty:=64) (by kernel_rfl) _ _ k 64 (rowA F) (0,0) _ rfl (setRow_heap wr k _ (rowA F) _ _ K.out.heap) Tryz.underlying64 rfl Z1.out) rfl ⟨by rw [HV.out],by rw [HR.out.1,HR.out.2.1];exact I.out.setRow hgk,zcd G.out (by have:=HK.out;omega)⟩
   ·have HV:Hid (V=fun _=>0):=hid (by rw [HR.out.2.2];simp [h0])
    have Z1:Hid ((Tryz.prog.info? 64).map (·.size)=some (#[.int .i64 0,.int .i64 0,.int .i64 0,.int .i64 0,.int .i64 0,.int .i64 0,.int .i64 0,.int .i64 0]:Array Value).size):=hid zhm
    have Z3:Hid ((#[.int .i64 0,.int .i64 0,.int .i64 0,.int .i64 0,.int .i64 0,.int .i64 0,.int .i64 0,.int .i64 0]:Array Value).all (·.oneCell')=true):=hid (zdF fun _=>0)
    go_wp2_with fail
    with_reducible refine (zaU g lj ej _ I.out (by omega)).mono ?_
    rintro en w4 ⟨rfl,rfl⟩
    clear h0
    go_wp2_with (first
     | (with_reducible refine wpList_store_row (o:=⟨none,_,_,_,_,_⟩) rfl 64 (.tmp 2) (.tmp 21) rfl k #[.int .i64 0,.int .i64 0,.int .i64 0,.int .i64 0,.int .i64 0,.int .i64 0,.int .i64 0,.int .i64 0] rfl rfl 64 _ K.out.heap Z1.out rfl Z3.out ?_))
    exact bodyPost_ret (v:=.agg #[.int .i64 0,.int .i64 0,.int .i64 0,.int .i64 0,.int .i64 0,.int .i64 0,.int .i64 0,.int .i64 0]) (results_cell_row (p:=2) (ty:=64) (by kernel_rfl) _ _ k 64 #[.int .i64 0,.int .i64 0,.int .i64 0,.int .i64 0,.int .i64 0,.int .i64 0,.int .i64 0,.int .i64 0] (0,0) _ rfl (setRow_heap wr k _ #[.int .i64 0,.int .i64 0,.int .i64 0,.int .i64 0,.int .i64 0,.int .i64 0,.int .i64 0,.int .i64 0] _ _ K.out.heap) Tryz.underlying64 rfl Z1.out) rfl ⟨by rw [HV.out];rfl,by rw [HR.out.1,HR.out.2.1];exact I.out.setRow hgk,zcd G.out (by have:=HK.out;omega)⟩
theorem znw (g:Nat) (l:List Nat) (e:Nat) (l':List Nat) (e':Nat) (V:Nat→Int) (w:World) (h:InAt w g l e) (hf:Fine l e) (h8:∀x∈l,x<256) (hl:l.length≤9223372036854775807) (hs:zgo l e=(l',e',V)) :
  Calls Tryz.prog 124 #[.pointer (some ⟨g,0,none⟩)] w (zbE (fun en=>en=.returned (.agg (rowA V))) g l' e' w):=by
 obtain ⟨h1,h2,h3⟩:=zjF l e
 rw [hs] at h1 h2 h3
 exact zoy (stA l e) g l e l' e' V w h hf h8 hl ⟨rfl,rfl,rfl⟩ (fun j=>⟨rfl,rfl,rfl⟩) (zjq hf h8) ⟨h1,h2,h3⟩
def zbV (F:Nat→Nat):Nat→List Nat
 | 0=>zae (F 0)
 | j+1=>zbV F j ++ zae (F (1+j))
def putF (f:Nat→Int):Nat→Int:=if okB f then f else fun _=>0
def natA (f:Nat→Int):Nat→Nat:=fun i=>(f i).toNat
theorem zq8:okB (fun _=>0)=true:=by decide
theorem ztx (f:Nat→Int):okB (putF f)=true:=by
 unfold putF
 by_cases h:okB f=true
 ·rw [if_pos h];exact h
 ·rw [if_neg h];exact zq8
theorem zqS {f:Nat→Int} (h:okB f=true):(∀i,i<8→f i=(natA f i:Int))∧natA f 0≤1073741824∧∀j,j<7→natA f (1+j)≤1024:=by
 obtain ⟨h0,h1⟩:=zem.1 h
 refine ⟨fun i hi=>?_,by unfold natA;omega,fun j hj=>by have:=h1 j hj;unfold natA;rw [Nat.add_comm];omega⟩
 unfold natA
 cases i with
 | zero=>omega
 | succ i=>have:=h1 i (by omega);omega
theorem zgJ {F:Nat→Nat} (h0:F 0≤1073741824) (h:∀j,j<7→F (1+j)≤1024):∀j,j≤7→(zbV F j).length≤10 * (j+1)
 | 0,_=>by unfold zbV;have:=zah (v:=F 0) (by omega);omega
 | j+1,hj=>by
  have h1:=zgJ h0 h j (by omega)
  have h2:=h j (by omega)
  have h3:=zah (v:=F (1+j)) (by omega)
  unfold zbV
  rw [List.length_append]
  omega
def zvt (base g:Nat) (l:List Nat) (w:World) (en:Ending) (w':World):Prop:=en=.returned (.tuple #[])∧zaB w' base g l∧Below base w w'∧za0 g w w'
theorem zaB.glt {w:World} {base g:Nat} {l:List Nat} (h:zaB w base g l):g<w.heap.size:=by
 obtain ⟨_,v,h1,_⟩:=h
 exact h1.lt
theorem znV (base g:Nat) (l:List Nat) (f:Nat→Int) (w:World) (h:zaB w base g l) (hlen:l.length+80≤140737488355328) :
  Calls Tryz.prog 240 #[.agg #[.int .i64 (f 0),.int .i64 (f 1),.int .i64 (f 2),.int .i64 (f 3),.int .i64 (f 4),.int .i64 (f 5),.int .i64 (f 6),.int .i64 (f 7)],.pointer (some ⟨g,0,none⟩)] w (zvt base g (l ++ zbV (natA (putF f)) 7) w):=by
 obtain ⟨o,ho⟩:∃o,okB f=o:=⟨_,rfl⟩
 have HO:=hid ho
 have HP:Hid (putF f=if o=true then f else fun _=>0):=hid (by unfold putF;rw [ho])
 have HQ:=hid (ztx f)
 obtain ⟨U,hU⟩:∃U,putF f=U:=⟨_,rfl⟩
 rw [hU] at HP HQ
 rw [hU]
 clear ho hU
 have hB:=h.base_le
 have hgl:=h.glt
 have HI:=hid h
 clear h
 go_enter Tryz.func240,Tryz.ntmps240
 go_upto_region 1 with fail
 obtain ⟨W,hW⟩:∃W,w.alloc (.cells #[.int .i64 (f 0),.int .i64 (f 1),.int .i64 (f 2),.int .i64 (f 3),.int .i64 (f 4),.int .i64 (f 5),.int .i64 (f 6),.int .i64 (f 7)] 64)=W:=⟨_,rfl⟩
 rw [hW]
 obtain ⟨K0,KB⟩:=za1 hW
 rw [show #[.int .i64 (f 0),.int .i64 (f 1),.int .i64 (f 2),.int .i64 (f 3),.int .i64 (f 4),.int .i64 (f 5),.int .i64 (f 6),.int .i64 (f 7)]=rowA f from rfl] at K0
 obtain ⟨k,hk⟩:∃k,w.heap.size=k:=⟨_,rfl⟩
 have HF:Hid (∀W,Below k w W→zaB W base g l∧Below base w W∧za0 g w W):=hid (fun W h=>by
  rw [←hk] at h
  exact ⟨HI.out.later h,h.mono hB,za0.of_below h⟩)
 rw [hk] at K0 KB hB hgl
 rw [hk]
 clear hW hk HI
 obtain ⟨c0,c1,c2,c3,c4,c5,c6,c7⟩:=K0.out.eight
 go_wp2_with fail
 clear c0 c1 c2 c3 c4 c5 c6 c7
 with_reducible refine (zjp f _).mono ?_
 rw [HO.out]
 rintro e w1 ⟨rfl,hb1⟩
 have K1:=hid (K0.out.below hb1 K0.out.lt)
 have B1:=hid (KB.out.trans (hb1.mono (by have:=K0.out.lt;omega)))
 clear hb1 K0 KB
 cases o
 case' false =>
  have Z1:Hid ((Tryz.prog.info? 64).map (·.size)=some (#[.int .i64 0,.int .i64 0,.int .i64 0,.int .i64 0,.int .i64 0,.int .i64 0,.int .i64 0,.int .i64 0]:Array Value).size):=hid zhm
  have Z2:Hid ((rowA f).size=(#[.int .i64 0,.int .i64 0,.int .i64 0,.int .i64 0,.int .i64 0,.int .i64 0,.int .i64 0,.int .i64 0]:Array Value).size):=hid (zcp f)
  have Z3:Hid ((#[.int .i64 0,.int .i64 0,.int .i64 0,.int .i64 0,.int .i64 0,.int .i64 0,.int .i64 0,.int .i64 0]:Array Value).all (·.oneCell')=true):=hid (zdF fun _=>0)
  go_upto_region 3 with (with_reducible refine wpList_store_row (o:=⟨none,_,_,_,_,_⟩) rfl 64 (.tmp 2) (.tmp 9) rfl k #[.int .i64 0,.int .i64 0,.int .i64 0,.int .i64 0,.int .i64 0,.int .i64 0,.int .i64 0,.int .i64 0] rfl rfl 64 _ K1.out.heap Z1.out Z2.out Z3.out ?_)
  have HU:Hid ((fun _=>0)=U):=hid (by rw [HP.out];simp)
  obtain ⟨W2,hW2⟩:∃W2,w1.setRow k #[.int .i64 0,.int .i64 0,.int .i64 0,.int .i64 0,.int .i64 0,.int .i64 0,.int .i64 0,.int .i64 0]=W2:=⟨_,rfl⟩
  rw [hW2]
  have K2:Hid (Blk W2 k 64 (rowA U)):=hid (by rw [←hW2,←HU.out];exact setRow_heap w1 k _ _ _ _ K1.out.heap)
  have B2:Hid (Below k w W2):=hid (by rw [←hW2];exact zak B1.out (Nat.le_refl _))
  clear hW2 K1 B1 HU Z1 Z2 Z3
 case' true =>
  have HU:f=U:=by rw [HP.out];simp
  rw [HU] at K1
  go_upto_region 3 with fail
  clear HU
  obtain ⟨W2,hW2⟩:∃W2,w1=W2:=⟨_,rfl⟩
  rw [hW2] at K1 B1 ⊢
  have K2:=K1
  have B2:=B1
  clear hW2 K1 B1
 all_goals
  obtain ⟨hn,hn0,hn1⟩:=zqS HQ.out
  have HNL:=hid (zgJ hn0 hn1)
  have HN:=hid hn
  have HN1:=hid hn1
  obtain ⟨x,hx⟩:∃x,natA U 0=x:=⟨_,rfl⟩
  have HX:Hid (zbV (natA U) 0=zae x):=hid (by unfold zbV;rw [hx])
  have c0:=K2.out.att (i:=0) (by decide)
  rw [hn 0 (by decide),hx] at c0
  rw [hx] at hn0
  clear hn hn1 hx
  have HC:Hid (IntKind.u64.wrap (x:Int)=(x:Int)):=hid (by rw [IntKind.wrap_u64];omega)
  have H2:=HF.out _ B2.out
  have O2:=hid H2.1
  have T2:=hid H2.2.1
  have S2:=hid H2.2.2
  clear H2
  go_wp2_with fail
  with_reducible refine (zaz base g l x _ _ O2.out (by first | rfl | exact HC.out) (by omega) (by omega)).mono ?_
  rintro en w3 ⟨⟨rfl,ho,hb⟩,hs⟩
  have K3:=hid (hs.2 k _ _ (by omega) (by decide) K2.out)
  have O3:=hid ho
  have T3:=hid (T2.out.trans hb)
  have S3:=hid (S2.out.trans hs)
  clear ho hb hs K2 B2 O2 T2 S2 c0
  have MR:=hid K3.out.range
  have H7:=hid (zhF U)
  go_wp2_with (with_reducible refine wpList_load_mid (op:=⟨some 16,_,_,_,_,_⟩) rfl 62 (.tmp 15) rfl k 1 rfl (lsD U) _ MR.out Tryz.underlying62 rfl H7.out ?_)
  have HI:Hid (∀j:Nat,j<7→(lsD U)[j]?=some (.int .i64 (natA U (1+j):Int))):=hid (fun j hj=>by rw [zhK U hj,HN.out (j+1) (by omega),Nat.add_comm])
  obtain ⟨ds,hds⟩:∃ds,lsD U=ds:=⟨_,rfl⟩
  rw [hds] at HI
  rw [hds]
  clear hds MR H7 K3
  go_loopw [17] (fun iv wr=>∃j:Nat,j≤7∧iv=.int .i64 j∧Hid (zaB wr base g (l ++ zbV (natA U) j))∧Hid (Below base w wr)∧Hid (za0 g w wr)) (fun iv _=>7 - (intOf iv).toNat)
  case atStart=>exact ⟨0,by omega,rfl,hid (by rw [HX.out];exact O3.out),T3,S3⟩
  case round =>
   obtain ⟨j,hj,rfl,O,T,S⟩:=hrel
   by_cases hlt:j<7
   ·have hx:=zdc ds.toArray j _ hlt ((List.getElem?_toArray ..).trans (HI.out j hlt))
    have hy:=HN1.out j hlt
    have hll:=HNL.out j (by omega)
    have HR:Hid (zbV (natA U) (j+1)=zbV (natA U) j ++ zae (natA U (1+j))):=hid rfl
    obtain ⟨y,hyy⟩:∃y,natA U (1+j)=y:=⟨_,rfl⟩
    obtain ⟨P,hP⟩:∃P,zbV (natA U) j=P:=⟨_,rfl⟩
    rw [hyy] at hx hy HR
    rw [hP] at hll HR O
    have HL:Hid ((l ++ P).length+10≤140737488355328):=hid (by rw [List.length_append];omega)
    have HC:Hid (IntKind.u64.wrap (y:Int)=(y:Int)):=hid (by rw [IntKind.wrap_u64];omega)
    clear hyy hP hll
    go_wp2_with fail
    with_reducible refine (zaz base g (l ++ P) y _ _ O.out (by first | rfl | exact HC.out) (by omega) HL.out).mono ?_
    rintro en w4 ⟨⟨rfl,ho,hb⟩,hs⟩
    have O4:=hid ho
    have T4:=hid (T.out.trans hb)
    have S4:=hid (S.out.trans hs)
    clear ho hb hs
    go_wp2
    go_roundw
    case rel=>exact ⟨j+1,by omega,by go_num,hid (by rw [HR.out,←List.append_assoc];exact O4.out),T4,S4⟩
    case measure=>simp only [intOf];omega
   ·have hj7:j=7:=by omega
    subst hj7
    obtain ⟨P,hP⟩:∃P,zbV (natA U) 7=P:=⟨_,rfl⟩
    rw [hP] at O ⊢
    have HPP:=hid hP
    clear hP
    go_wp2
    go_end0
    exact ⟨rfl,O.out,T.out,S.out⟩
end Go.Proofs.YtnjdckoljmgcjaaGreatDoor
namespace Go.Proofs.YtnjdckoljmgcjaaGreatDoor
open Go.Lib
set_option linter.unusedVariables false
set_option linter.unusedSimpArgs false
theorem zlG {l:List Nat} {e:Nat} {l':List Nat} {e' r s:Nat} (h:zao l e) (hs:zgn l e=(l',e',r,s)):zao l' e'∧(e'=0→e=0∧l=([r] ++ zae s) ++ l'):=by
 obtain ⟨l1,e1,b,h1⟩:∃x y z,zbc l e=(x,y,z):=⟨_,_,_,rfl⟩
 obtain ⟨s1,b1⟩:=zcg h h1
 obtain ⟨l2,e2,h2⟩:∃x y,zcB l e=(x,y):=⟨_,_,rfl⟩
 obtain ⟨l3,e3,v,h3⟩:∃x y z,zal l2 e2 1023=(x,y,z):=⟨_,_,_,rfl⟩
 have hm:(if 6<b then (zbs e1 12 l1,zay e1 12) else (l1,e1))=(l2,e2):=by rw [←h2];unfold zcB;rw [h1]
 have he:zdj l e=(l3,e3,v):=by unfold zdj;rw [h2];exact h3
 have s2:zao l2 e2∧(6<b→e2≠0)∧(¬6<b→l1=l2∧e1=e2):=by
  split at hm
  ·rename_i hb
   simp only [Prod.mk.injEq] at hm
   obtain ⟨rfl,rfl⟩:=hm
   exact ⟨zc5 (by omega) s1,fun _=>zaV (by omega),fun hn=>absurd hb hn⟩
  ·rename_i hn
   simp only [Prod.mk.injEq] at hm
   obtain ⟨rfl,rfl⟩:=hm
   exact ⟨s1,fun h=>absurd h hn,fun _=>⟨rfl,rfl⟩⟩
 obtain ⟨s3,b3⟩:=zax s2.1 h3
 unfold zgn at hs
 rw [he,h1] at hs
 simp only [Prod.mk.injEq] at hs
 obtain ⟨rfl,rfl,hv⟩:=hs
 refine ⟨s3,fun h0=>?_⟩
 subst h0
 rw [if_pos rfl] at hv
 simp only [Prod.mk.injEq] at hv
 obtain ⟨rfl,rfl⟩:=hv
 obtain ⟨z2,j2,_⟩:=zcj s2.1 h3
 have hb:¬6<b:=fun hb=>s2.2.1 hb z2
 obtain ⟨rfl,rfl⟩:=s2.2.2 hb
 subst z2
 obtain ⟨z,j⟩:=zg1 h h1
 exact ⟨z,by rw [j,j2,List.append_assoc]⟩
theorem zo7 (a b:Nat) (r:List Nat) (ha:a<7) (hb:b<1024):zgn (([a] ++ zae b) ++ r) 0=(r,0,a,b):=by
 have h1:zbc (([a] ++ zae b) ++ r) 0=(zae b ++ r,0,a):=rfl
 have h2:zcB (([a] ++ zae b) ++ r) 0=(zae b ++ r,0):=by unfold zcB;rw [h1,if_neg (by show ¬6<a;omega)]
 have h3:zdj (([a] ++ zae b) ++ r) 0=(r,0,b):=by unfold zdj;rw [h2];exact zcm b 1023 r (by omega) (by omega)
 unfold zgn
 rw [h3,h1]
 rfl
theorem zd5 {l:List Nat} {e:Nat} {l':List Nat} {e' v:Nat} (h:zao l e) (hs:zb6 l e=(l',e',v)):zao l' e'∧v<4294967296∧(e'=0→e=0∧l=zae v ++ l'):=by
 obtain ⟨l1,e1,b,h1⟩:∃x y z,zal l e 4294967295=(x,y,z):=⟨_,_,_,rfl⟩
 obtain ⟨s1,b1⟩:=zax h h1
 unfold zb6 at hs
 rw [h1] at hs
 simp only at hs
 split at hs
 ·simp only [Prod.mk.injEq] at hs
  obtain ⟨rfl,rfl,rfl⟩:=hs
  refine ⟨s1,by omega,fun h0=>?_⟩
  subst h0
  obtain ⟨z,j,_⟩:=zcj h h1
  exact ⟨z,j⟩
 ·simp only [Prod.mk.injEq] at hs
  obtain ⟨rfl,rfl,rfl⟩:=hs
  exact ⟨zc5 (by omega) s1,by omega,fun h0=>absurd h0 (zaV (by omega))⟩
theorem zhr (v:Nat) (r:List Nat) (hv:v<4294967296) (hb:zcC v=true):zb6 (zae v ++ r) 0=(r,0,v):=by
 have h:=zcm v 4294967295 r (by omega) (by omega)
 unfold zb6
 rw [h,if_pos hb]
theorem znD (t:Bool) (r:List Nat):zdA ([zcv t] ++ r) 0=(r,0,t):=by cases t <;> rfl
theorem zop {F:Nat→Nat} (h0:F 0≤1073741824) (h:∀j,j<7→F (1+j)≤1024):∀(j:Nat) (r:List Nat),j≤7→∃V,stA (zbV F j ++ r) 0 j=(r,0,V)∧∀i,i≤j→V i=(F i:Nat)
 | 0,r,_=>by
  refine ⟨upd (fun _=>0) 0 (F 0:Nat),?_,fun i hi=>?_⟩
  ·unfold stA zbV
   rw [zcm (F 0) 1073741824 r (by omega) h0]
  ·obtain rfl:i=0:=by omega
   simp [upd]
 | j+1,r,hj=>by
  obtain ⟨V,ih,hV⟩:=zop h0 h j (zae (F (1+j)) ++ r) (by omega)
  have h1:=h j (by omega)
  refine ⟨upd V (1+j) (F (1+j):Nat),?_,fun i hi=>?_⟩
  ·unfold stA zbV
   rw [List.append_assoc,ih]
   simp only
   rw [zcm (F (1+j)) 1024 r (by omega) h1]
  ·unfold upd
   by_cases h:i=1+j
   ·rw [if_pos h,h]
   ·rw [if_neg h];exact hV i (by omega)
theorem zpq (f:Nat→Int) (r:List Nat) (h:okB f=true):∃V,zgo (zbV (natA f) 7 ++ r) 0=(r,0,V)∧eqA V f=true:=by
 obtain ⟨hn,h0,h1⟩:=zqS h
 obtain ⟨V,hs,hV⟩:=zop h0 h1 7 r (Nat.le_refl _)
 refine ⟨V,?_,zdG.2 fun i hi=>?_⟩
 ·unfold zgo
  rw [hs]
  rfl
 ·rw [hV i (by omega),←hn i hi]
theorem zg7 {F G:Nat→Nat}:∀j,(∀i,i≤j→F i=G i)→zbV F j=zbV G j
 | 0,h=>by unfold zbV;rw [h 0 (Nat.le_refl _)]
 | j+1,h=>by unfold zbV;rw [zg7 j (fun i hi=>h i (by omega)),h (1+j) (by omega)]
theorem zkE {l:List Nat} {e:Nat} (h:zao l e) (j:Nat):zao (stA l e j).1 (stA l e j).2.1:=by
 obtain ⟨a,b,c⟩:=zjq h.fine h.bytes j
 exact ⟨a,b,Nat.le_trans c h.len⟩
theorem zp9 {l:List Nat} {e:Nat} (h:zao l e):∀j,(stA l e j).2.1=0→e=0∧l=zbV (natA (stA l e j).2.2) j ++ (stA l e j).1
 | 0,h0=>by
  obtain ⟨l1,e1,v,h1⟩:∃x y z,zal l e 1073741824=(x,y,z):=⟨_,_,_,rfl⟩
  unfold stA at h0 ⊢
  rw [h1] at h0 ⊢
  simp only at h0 ⊢
  subst h0
  obtain ⟨z,j,_⟩:=zcj h h1
  refine ⟨z,?_⟩
  rw [j]
  unfold zbV natA upd
  simp
 | j+1,h0=>by
  have hS:=zkE h j
  have ih:=zp9 h j
  obtain ⟨l0,e0,V,hj⟩:∃x y z,stA l e j=(x,y,z):=⟨_,_,_,rfl⟩
  rw [hj] at hS ih
  simp only at hS ih
  obtain ⟨l1,e1,v,h1⟩:∃x y z,zal l0 e0 1024=(x,y,z):=⟨_,_,_,rfl⟩
  unfold stA at h0 ⊢
  rw [hj] at h0 ⊢
  simp only at h0 ⊢
  rw [h1] at h0 ⊢
  simp only at h0 ⊢
  subst h0
  obtain ⟨z,k,_⟩:=zcj hS h1
  obtain ⟨z2,k2⟩:=ih z
  refine ⟨z2,?_⟩
  have hc:zbV (natA (upd V (1+j) (v:Nat))) j=zbV (natA V) j:=zg7 j fun i hi=>by
   unfold natA upd
   rw [if_neg (by omega)]
  unfold zbV
  rw [hc,k2,k,List.append_assoc]
  unfold natA upd
  simp
theorem zls {l:List Nat} {e:Nat} {l':List Nat} {e':Nat} {V:Nat→Int} (h:zao l e) (hs:zgo l e=(l',e',V)):zao l' e'∧(e'=0→e=0∧l=zbV (natA V) 7 ++ l'):=by
 have h1:=zkE h 7
 have h2:=zp9 h 7
 obtain ⟨k1,k2,k3⟩:=zjF l e
 rw [hs] at k1 k2 k3
 simp only at k1 k2 k3
 generalize stA l e 7=st at h1 h2 k1 k2 k3
 obtain ⟨a,b,c⟩:=st
 simp only at h1 h2 k1 k2 k3
 subst k1 k2
 refine ⟨h1,fun h0=>?_⟩
 rw [if_pos h0] at k3
 subst k3
 exact h2 h0
def encJ (x:J):List Nat:=((([x.r.toNat] ++ zae x.s.toNat) ++ zae x.bal.toNat) ++ [x.st.toNat]) ++ (if x.st=0 then [] else ((zae x.vote.toNat ++ [zcv x.same]) ++ enc x.c) ++ zbV (natA x.f) 7)
def valE (b:Nat) (l:List Nat) (e:Nat):List Nat × Nat × Nat × Bool × K × (Nat→Int) :=
 if b=0 then (l,e,0,false,za8,fun _=>0) else
  match zb6 l e with
  | (l5,e5,vt)=>match zdA l5 e5 with
   | (l6,e6,sm)=>match sCmd l6 e6 with
    | (l7,e7,c)=>match zgo l7 e7 with
     | (l8,e8,V)=>(l8,e8,vt,sm,c,V)
def zjg (b:Nat) (l:List Nat) (e:Nat):List Nat × Nat:=if 3<b then (zbs e 22 l,zay e 22) else (l,e)
def zeg (s:List Nat × Nat × J):List Nat × Nat × J :=
 if zbr s.2.2 then (s.1,s.2.1,if s.2.1=0 then s.2.2 else zau) else (zbs s.2.1 10 s.1,zay s.2.1 10,zau)
def zsN (l:List Nat) (e:Nat):List Nat × Nat × J :=
 match zgn l e with
 | (l1,e1,r,s)=>match zb6 l1 e1 with
  | (l2,e2,v)=>match zbc l2 e2 with
   | (l3,e3,b)=>match zjg b l3 e3 with
    | (l4,e4)=>match valE b l4 e4 with
     | (l8,e8,vt,sm,c,V)=>zeg (l8,e8,⟨r,s,b,v,vt,sm,c,V⟩)
theorem ziI {l l1 l2 l3 l4 l8:List Nat} {e e1 e2 e3 e4 e8 r s v b vt:Nat} {sm:Bool} {c:K} {V:Nat→Int} (h1:zgn l e=(l1,e1,r,s)) (h2:zb6 l1 e1=(l2,e2,v)) (h3:zbc l2 e2=(l3,e3,b)) (h4:zjg b l3 e3=(l4,e4)) (h5:valE b l4 e4=(l8,e8,vt,sm,c,V)) :
  zsN l e=zeg (l8,e8,⟨((r:Nat):Int),((s:Nat):Int),((b:Nat):Int),((v:Nat):Int),((vt:Nat):Int),sm,c,V⟩):=by
 unfold zsN
 simp only [h1,h2,h3,h4,h5]
theorem zlZ {b:Nat} {l:List Nat} {e:Nat} {l':List Nat} {e':Nat} (h:zao l e) (hs:zjg b l e=(l',e')):zao l' e'∧(e'=0→e=0∧l=l'∧b≤3):=by
 unfold zjg at hs
 split at hs
 ·simp only [Prod.mk.injEq] at hs
  obtain ⟨rfl,rfl⟩:=hs
  exact ⟨zc5 (by omega) h,fun h0=>absurd h0 (zaV (by omega))⟩
 ·rename_i hn
  simp only [Prod.mk.injEq] at hs
  obtain ⟨rfl,rfl⟩:=hs
  exact ⟨h,fun h0=>⟨h0,rfl,by omega⟩⟩
theorem zrQ:okK za8:=⟨by simp,by simp,by simp,by simp,by simp,by simp⟩
theorem zkz {b:Nat} {l:List Nat} {e:Nat} {l':List Nat} {e' vt:Nat} {sm:Bool} {c:K} {V:Nat→Int} (hb:b≠0) (hs:valE b l e=(l',e',vt,sm,c,V)) :
  ∃l5 e5 l6 e6 l7 e7,zb6 l e=(l5,e5,vt)∧zdA l5 e5=(l6,e6,sm)∧sCmd l6 e6=(l7,e7,c)∧zgo l7 e7=(l',e',V):=by
 obtain ⟨l5,e5,a,h5⟩:∃x y z,zb6 l e=(x,y,z):=⟨_,_,_,rfl⟩
 obtain ⟨l6,e6,d,h6⟩:∃x y z,zdA l5 e5=(x,y,z):=⟨_,_,_,rfl⟩
 obtain ⟨l7,e7,f,h7⟩:∃x y z,sCmd l6 e6=(x,y,z):=⟨_,_,_,rfl⟩
 obtain ⟨l8,e8,g,h8⟩:∃x y z,zgo l7 e7=(x,y,z):=⟨_,_,_,rfl⟩
 unfold valE at hs
 rw [if_neg hb] at hs
 simp only [h5,h6,h7,h8,Prod.mk.injEq] at hs
 obtain ⟨rfl,rfl,rfl,rfl,rfl,rfl⟩:=hs
 exact ⟨l5,e5,l6,e6,l7,e7,h5,h6,h7,h8⟩
theorem zn7 {b:Nat} {l:List Nat} {e:Nat} {l':List Nat} {e' vt:Nat} {sm:Bool} {c:K} {V:Nat→Int} (h:zao l e) (hs:valE b l e=(l',e',vt,sm,c,V)) :
  zao l' e'∧vt<4294967296∧okK c∧c.foot.size≤64∧c.path.size≤64∧(e'=0→e=0∧l=(if b=0 then [] else ((zae vt ++ [zcv sm]) ++ enc c) ++ zbV (natA V) 7) ++ l'):=by
 by_cases hb:b=0
 ·unfold valE at hs
  rw [if_pos hb] at hs
  simp only [Prod.mk.injEq] at hs
  obtain ⟨rfl,rfl,rfl,rfl,rfl,rfl⟩:=hs
  exact ⟨h,by omega,zrQ,by decide,by decide,fun h0=>⟨h0,by rw [if_pos hb];rfl⟩⟩
 ·obtain ⟨l5,e5,l6,e6,l7,e7,h5,h6,h7,h8⟩:=zkz hb hs
  obtain ⟨s5,b5,i5⟩:=zd5 h h5
  have s6:=zf7 s5 h6
  obtain ⟨s7,ok7,f7,p7,_,i7⟩:=zik s6 h7
  obtain ⟨s8,i8⟩:=zls s7 h8
  refine ⟨s8,b5,ok7,f7,p7,fun h0=>?_⟩
  obtain ⟨z8,j8⟩:=i8 h0
  obtain ⟨z7,j7⟩:=i7 z8
  subst z7
  obtain ⟨z6,j6⟩:=zog s5 h6
  obtain ⟨z5,j5⟩:=i5 z6
  refine ⟨z5,?_⟩
  rw [if_neg hb,j5,j6,j7,j8]
  simp only [List.append_assoc]
theorem zcG {x:J} (hok:okJ x) (hr:zbr x=true):∃a b v u t:Nat,x.r=a∧x.s=b∧x.bal=v∧x.vote=u∧x.st=t∧a<7∧b<1024∧v<4294967296∧zcC v=true∧u<4294967296∧zcC u=true∧t≤3 ∧
  (t≠0→zaF x.c=true∧okB x.f=true)∧(t=0→x.vote=0∧x.same=false∧x.c=za8∧∀i,i<8→x.f i=0):=by
 unfold zbr at hr
 simp only [Bool.and_eq_true] at hr
 obtain ⟨⟨hn,hb⟩,hv⟩:=hr
 obtain ⟨a,b,ha,hb2,ha7,hb10,_⟩:=ze9 hn
 unfold balB at hb
 by_cases h0:x.st=0
 ·rw [if_pos h0] at hv
  unfold eqJ zcK at hv
  simp only [Bool.and_eq_true,beq_iff_eq,decide_eq_true_eq,zdG] at hv
  obtain ⟨_,_,_,h4,h5,h6,h7⟩:=hv
  refine ⟨a,b,x.bal.toNat,0,0,ha,hb2,by have:=hok.1;omega,h4,h0,ha7,hb10,by have:=hok.1;omega,hb,by omega,by decide,by omega,fun h=>absurd rfl h,fun _=>⟨h4,h5,h6,h7⟩⟩
 ·rw [if_neg h0] at hv
  unfold valB zhR balB at hv
  simp only [Bool.and_eq_true,decide_eq_true_eq] at hv
  obtain ⟨hs,⟨⟨⟨⟨hv1,hv2⟩,hv3⟩,hv4⟩,hv5⟩⟩:=hv
  unfold ownB at hv5
  simp only [Bool.and_eq_true,decide_eq_true_eq] at hv5
  refine ⟨a,b,x.bal.toNat,x.vote.toNat,x.st.toNat,ha,hb2,by have:=hok.1;omega,by have:=hok.2;omega,by omega,ha7,hb10,by have:=hok.1;omega,hb,by have:=hok.2;omega,hv1,by omega,fun _=>⟨hv4,hv5.1.1⟩,fun h=>absurd h (by omega)⟩
theorem zmb (x:J):eqJ x x=true:=by
 unfold eqJ
 simp [zmJ]
theorem zs8 {x y:J} (h1:x.r=y.r) (h2:x.s=y.s) (h3:x.st=y.st) (h4:x.bal=y.bal) (h5:x.vote=y.vote) (h6:x.same=y.same) (h7:x.c=y.c) (h8:eqA x.f y.f=true):eqJ x y=true:=by
 unfold eqJ
 simp [h1,h2,h3,h4,h5,h6,h7,h8]
theorem zpY {f g:Nat→Int} (h:eqA f g=true):okB f=okB g:=by
 have e:=zdG.1 h
 rw [Bool.eq_iff_iff,zem,zem,e 0 (by decide)]
 constructor
 ·rintro ⟨a,b⟩
  exact ⟨a,fun i hi=>by rw [←e (i+1) (by omega)];exact b i hi⟩
 ·rintro ⟨a,b⟩
  exact ⟨a,fun i hi=>by rw [e (i+1) (by omega)];exact b i hi⟩
theorem znz {f g:Nat→Int} (h:eqA f g=true) (r s:Int):ownB f r s=ownB g r s:=by
 unfold ownB
 rw [zpY h]
 cases hn:zds r s
 ·simp
 ·obtain ⟨a,b,rfl,rfl,ha,_,_⟩:=ze9 hn
  rw [Int.toNat_natCast,zdG.1 h (1+a) (by omega)]
theorem zpp {f g k:Nat→Int} (h:eqA f g=true):eqA f k=eqA g k:=by
 rw [Bool.eq_iff_iff,zdG,zdG]
 have e:=zdG.1 h
 constructor
 ·intro a i hi;rw [←e i hi];exact a i hi
 ·intro a i hi;rw [e i hi];exact a i hi
theorem zh9 (x:J) (V:Nat→Int) (h:eqA V x.f=true):zbr ⟨x.r,x.s,x.st,x.bal,x.vote,x.same,x.c,V⟩=zbr x:=by
 unfold zbr valB eqJ zcK zf3
 simp only
 rw [zpp h,znz h]
theorem zqh (x:J) (more:List Nat) (hok:okJ x) (hK:okK x.c) (hr:zbr x=true):∃y,zsN (encJ x ++ more) 0=(more,0,y)∧eqJ y x=true:=by
 obtain ⟨a,b,v,u,t,ha,hb,hv,hu,ht,ha7,hb10,hvv,hvb,huu,hub,ht3,hn0,h0⟩:=zcG hok hr
 have hr2:=hr
 obtain ⟨r,s,st,bal,vote,same,c,f⟩:=x
 simp only at ha hb hv hu ht hn0 h0 hK
 subst ha hb hv hu ht
 have h1:∀z,zgn (([a] ++ zae b) ++ z) 0=(z,0,a,b):=fun z=>zo7 a b z ha7 hb10
 have h2:∀z,zb6 (zae v ++ z) 0=(z,0,v):=fun z=>zhr v z hvv hvb
 have h3:∀z,zbc ([t] ++ z) 0=(z,0,t):=fun z=>rfl
 have h4:∀z,zjg t z 0=(z,0):=fun z=>by unfold zjg;rw [if_neg (by omega)]
 have he:encJ ⟨a,b,t,v,u,same,c,f⟩ ++ more=([a] ++ zae b) ++ (zae v ++ ([t] ++ ((if t=0 then [] else ((zae u ++ [zcv same]) ++ enc c) ++ zbV (natA f) 7) ++ more))):=by
  unfold encJ
  simp only [Int.toNat_natCast,List.append_assoc]
  by_cases hz:t=0
  ·subst hz;simp
  ·rw [if_neg hz,if_neg (by omega)]
   try simp only [List.append_assoc]
 rw [he]
 by_cases hz:t=0
 ·subst hz
  obtain ⟨z1,z2,z3,z4⟩:=h0 rfl
  obtain rfl:u=0:=by omega
  subst z2 z3
  have h5:∀z,valE 0 z 0=(z,0,0,false,za8,fun _=>0):=fun z=>rfl
  have hA:eqA (fun _=>0) f=true:=zdG.2 fun i hi=>(z4 i hi).symm
  refine ⟨⟨a,b,0,v,0,false,za8,fun _=>0⟩,?_,zs8 rfl rfl rfl rfl rfl rfl rfl hA⟩
  rw [if_pos rfl,List.nil_append,ziI (h1 _) (h2 _) (h3 _) (h4 _) (h5 _)]
  have hR:=(zh9 ⟨a,b,0,v,0,false,za8,f⟩ (fun _=>0) hA).trans hr2
  unfold zeg
  simp only [Int.natCast_zero] at hR ⊢
  rw [if_pos hR,if_pos True.intro]
 ·obtain ⟨k1,k2⟩:=hn0 hz
  obtain ⟨V,kV,eV⟩:=zpq f more k2
  have h5:valE t ((((zae u ++ [zcv same]) ++ enc c) ++ zbV (natA f) 7) ++ more) 0=(more,0,u,same,c,V):=by
   unfold valE
   rw [if_neg hz,show (((zae u ++ [zcv same]) ++ enc c) ++ zbV (natA f) 7) ++ more=zae u ++ ([zcv same] ++ (enc c ++ (zbV (natA f) 7 ++ more))) by simp only [List.append_assoc]]
   simp only [zhr u _ huu hub,znD,zrx c _ hK k1,kV]
  refine ⟨⟨a,b,t,v,u,same,c,V⟩,?_,zs8 rfl rfl rfl rfl rfl rfl rfl eV⟩
  rw [if_neg hz,ziI (h1 _) (h2 _) (h3 _) (h4 _) h5]
  have hR:=(zh9 ⟨a,b,t,v,u,same,c,f⟩ V eV).trans hr2
  unfold zeg
  simp only at hR ⊢
  rw [if_pos hR,if_pos True.intro]
end Go.Proofs.YtnjdckoljmgcjaaGreatDoor
