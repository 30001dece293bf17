/-
  What a taking of a command does to any bytes: what is left, the error, the command; and that what is read is written as it was. No program but a string's bytes.
-/
import Derived.Test.YtnjdckoljmgcjaaGreatDoorW16
set_option maxRecDepth 100000
set_option maxHeartbeats 4000000
namespace Go.Proofs.YtnjdckoljmgcjaaGreatDoor
open Go.ChangeShapes Go.WideShapes Go.ChangeAt Go.RowKit
def zbc (l:List Nat) (e:Nat):List Nat × Nat × Nat:=match l with
 | []=>([],zay e 20,0)
 | b :: t=>(t,e,b)
def zdA (l:List Nat) (e:Nat):List Nat × Nat × Bool:=match l with
 | []=>([],zay e 20,false)
 | b :: t=>if b≤1 then (t,e,decide (b=1)) else ([],10,false)
def zal (l:List Nat) (e most:Nat):List Nat × Nat × Nat :=
 if (zbQ l).2.2=0 then (if most<(zbQ l).1 then ([],12,0) else (l.drop (zbQ l).2.1,e,(zbQ l).1)) else ([],zay e (zbQ l).2.2,0)
def zb1 (l:List Nat) (e:Nat):List Nat × Nat × Nat:=if l.length<8 then ([],zay e 20,0) else (l.drop 8,e,numN (l.take 8))
theorem zlK (l:List Nat):∀(i n:Nat),(zb9 i n l).2.2≠0→(zb9 i n l).1=0∧(zb9 i n l).2.1=0:=by
 induction l with
 | nil=>intro i n _;exact ⟨rfl,rfl⟩
 | cons c r ih =>
  intro i n h
  rw [zb9] at h ⊢
  split
  ·exact ⟨rfl,rfl⟩
  ·split
   ·rename_i h1 h2
    rw [if_neg h1,if_pos h2] at h
    exact ih _ _ h
   ·split
    ·exact ⟨rfl,rfl⟩
    ·rename_i h1 h2 h3
     rw [if_neg h1,if_neg h2,if_neg h3] at h
     exact absurd rfl h
theorem zmW {l:List Nat} (h:(zbQ l).2.2≠0):zbQ l=(0,0,(zbQ l).2.2):=by
 obtain ⟨h1,h2⟩:=zlK l 0 0 h
 have e:zbQ l=((zbQ l).1,(zbQ l).2.1,(zbQ l).2.2):=rfl
 rw [e]
 show ((zb9 0 0 l).1,(zb9 0 0 l).2.1,(zbQ l).2.2)=_
 rw [h1,h2]
theorem zl2 {l:List Nat} (h:(zbQ l).2.2=0):l≠[]:=by
 rintro rfl
 exact absurd h (by decide)
theorem zbF {e x:Nat} (h:0<x):0<zay e x:=by unfold zay;split <;> omega
theorem zdU {e x:Nat} {l:List Nat} (h:0<x) (hl:e≠0→l=[]):zbs e x l=[]:=by
 unfold zbs
 split
 ·rfl
 ·exact hl (by omega)
theorem zh6 (e:Nat) (l:List Nat):zbs e 0 l=l:=by simp [zbs]
theorem zg6 (e:Nat):zay e 0=e:=by unfold zay;split <;> omega
theorem zlA (x:Nat):zay 0 x=x:=rfl
def Fine (l:List Nat) (e:Nat):Prop:=e≠0→l=[]
theorem zkl (g:Nat) (e:Nat) (w:World) (h:InAt w g [] e) :
  Calls Tryz.prog 81 #[.pointer (some ⟨g,0,none⟩)] w (zbE (fun en=>en=.returned (.int .u8 0)) g [] (zay e 20) w):=by
 have HI:=hid h
 have hp:0<zay e 20:=zbF (by omega)
 clear h
 go_enter Tryz.func81,Tryz.ntmps81
 go_wp2_with fail
 with_reducible refine (ziN g [] e 1 _ _ HI.out (by omega) (by simp)).mono ?_
 rintro en w1 ⟨rfl,hin,hg⟩
 have HT:Hid (InAt w1 g [] (zay e 20)):=hid (by rw [zbs] at hin;simpa using hin)
 have HG:=hid hg
 clear hin hg
 go_wp2_with fail
 with_reducible refine (zaU g [] (zay e 20) _ HT.out hp).mono ?_
 rintro en w2 ⟨rfl,rfl⟩
 go_wp2
 go_ret
 exact ⟨rfl,HT.out,HG.out⟩
theorem zdp (g:Nat) (b:Nat) (t:List Nat) (w:World) (h:InAt w g (b :: t) 0) :
  Calls Tryz.prog 81 #[.pointer (some ⟨g,0,none⟩)] w (zbE (fun en=>en=.returned (.int .u8 (b:Int))) g t 0 w):=by
 have HI:=hid h
 clear h
 go_enter Tryz.func81,Tryz.ntmps81
 go_wp2_with fail
 with_reducible refine (zf2 g (b :: t) 0 1 _ _ HI.out (by omega) (by simp)).mono ?_
 rintro en w1 ⟨⟨A1,rfl,_,hs⟩,hin,hg⟩
 obtain ⟨b',o,rfl,_,hc⟩:=hs 0 b (by simp)
 have HT:Hid (InAt w1 g t 0):=hid hin
 have HG:=hid hg
 have hc':w1.cell? ⟨b',o,none⟩=some (.int .u8 (b:Int)):=hc
 clear hin hg hs hc
 go_wp2_with fail
 with_reducible refine (zcL g t _ HT.out).mono ?_
 rintro en w2 ⟨rfl,rfl⟩
 go_wp2
 go_ret
 exact ⟨rfl,HT.out,HG.out⟩
theorem zfq (g:Nat) (l:List Nat) (e:Nat) (l':List Nat) (e' v:Nat) (w:World) (h:InAt w g l e) (hf:Fine l e) (hs:zbc l e=(l',e',v)) :
  Calls Tryz.prog 81 #[.pointer (some ⟨g,0,none⟩)] w (zbE (fun en=>en=.returned (.int .u8 (v:Int))) g l' e' w):=by
 cases l with
 | nil =>
  simp only [zbc,Prod.mk.injEq] at hs
  obtain ⟨rfl,rfl,rfl⟩:=hs
  exact zkl g e w h
 | cons b t =>
  obtain rfl:e=0:=by
   rcases Nat.eq_zero_or_pos e with h0 | h0
   ·exact h0
   ·exact absurd (hf (by omega)) (by simp)
  simp only [zbc,Prod.mk.injEq] at hs
  obtain ⟨rfl,rfl,rfl⟩:=hs
  exact zdp g b t w h
theorem zkM (g:Nat) (l:List Nat) (e:Nat) (l':List Nat) (e':Nat) (v:Bool) (w:World) (h:InAt w g l e) (hf:Fine l e) (h8:∀x∈l,x<256) (hs:zdA l e=(l',e',v)) :
  Calls Tryz.prog 122 #[.pointer (some ⟨g,0,none⟩)] w (zbE (fun en=>en=.returned (.bool v)) g l' e' w):=by
 cases l with
 | nil =>
  simp only [zdA,Prod.mk.injEq] at hs
  obtain ⟨rfl,rfl,rfl⟩:=hs
  have HI:=hid h
  clear h h8 hf
  go_enter Tryz.func122,Tryz.ntmps122
  go_wp2_with fail
  with_reducible refine (zkl g e _ HI.out).mono ?_
  rintro en w1 ⟨rfl,hin,hg⟩
  have HT:=hid hin
  have HG:=hid hg
  clear hin hg
  go_wp2
  go_ret
  exact ⟨rfl,HT.out,HG.out⟩
 | cons b t =>
  obtain rfl:e=0:=by
   rcases Nat.eq_zero_or_pos e with h0 | h0
   ·exact h0
   ·exact absurd (hf (by omega)) (by simp)
  have hb:b<256:=h8 b (by simp)
  have HI:=hid h
  clear h h8 hf
  by_cases h2:2≤b
  ·rw [zdA,if_neg (by omega)] at hs
   simp only [Prod.mk.injEq] at hs
   obtain ⟨rfl,rfl,rfl⟩:=hs
   have hb1:((b:Int) == 1)=false:=by rw [beq_eq_false_iff_ne];omega
   have hb2:((b:Int) != 0)=true:=by rw [bne_iff_ne];omega
   have hb3:((b:Int) != 1)=true:=by rw [bne_iff_ne];omega
   go_enter Tryz.func122,Tryz.ntmps122
   go_wp2_with fail
   with_reducible refine (zdp g b t _ HI.out).mono ?_
   rintro en w1 ⟨rfl,hin,hg⟩
   have HT:=hid hin
   have HG:=hid hg
   clear hin hg
   go_wp2_with fail
   with_reducible refine (zbI g t 0 10 _ _ HT.out (by omega)).mono ?_
   rintro en w2 ⟨rfl,hin,hg⟩
   have HT2:=hid hin
   have HG2:=hid (HG.out.trans hg)
   clear hin hg
   go_wp2
   go_ret
   exact ⟨rfl,HT2.out,HG2.out⟩
  ·rw [zdA,if_pos (by omega)] at hs
   simp only [Prod.mk.injEq] at hs
   obtain ⟨rfl,rfl,rfl⟩:=hs
   by_cases h0:b=0
   ·subst h0
    go_enter Tryz.func122,Tryz.ntmps122
    go_wp2_with fail
    with_reducible refine (zdp g 0 t _ HI.out).mono ?_
    rintro en w1 ⟨rfl,hin,hg⟩
    have HT:=hid hin
    have HG:=hid hg
    clear hin hg
    go_wp2
    go_ret
    exact ⟨rfl,HT.out,HG.out⟩
   ·obtain rfl:b=1:=by omega
    go_enter Tryz.func122,Tryz.ntmps122
    go_wp2_with fail
    with_reducible refine (zdp g 1 t _ HI.out).mono ?_
    rintro en w1 ⟨rfl,hin,hg⟩
    have HT:=hid hin
    have HG:=hid hg
    clear hin hg
    go_wp2
    go_ret
    exact ⟨rfl,HT.out,HG.out⟩
theorem zkW (A:Option Addr) (len ca:Nat) (w:World) (hl:len<8) :
  Calls Tryz.prog 162 #[.slice A len ca,.int .i64 8] w (zld (0,0,20) w):=znt A len ca 8 w (by omega) (by omega) hl
theorem znv (b o:Nat) (l:List Nat) (w:World) (hl:l.length=8) (hx:∀x∈l,x<256) (hA:Sees .u8 w (some ⟨b,o,none⟩) l) :
  Calls Tryz.prog 162 #[.slice (some ⟨b,o,none⟩) 8 8,.int .i64 8] w (zld (numN l,8,0) w):=by
 have h:=zsb b o l 8 8 w (by omega) (by omega) (by omega) (by omega) hx hA
 rw [List.take_of_length_le (by omega),hl] at h
 exact h
theorem zdb {l:List Nat} {e:Nat} (hf:Fine l e) (hl:l≠[]):e=0:=by
 rcases Nat.eq_zero_or_pos e with h0 | h0
 ·exact h0
 ·exact absurd (hf (by omega)) hl
theorem zot (g:Nat) (l:List Nat) (e z:Nat) (most:Int) (w:World) (hm0:0≤most) (h:InAt w g l e) (hf:Fine l e) (hl:l.length≤9223372036854775807) (h8:∀x∈l,x<256) (hr:zbQ l=(0,0,z)) (hz:0<z) :
  Calls Tryz.prog 82 #[.pointer (some ⟨g,0,none⟩),.int .u64 most] w (zbE (fun en=>en=.returned (.int .u64 0)) g [] (zay e z) w):=by
 have HI:=hid h
 have HR:=hid hr
 have H8:=hid h8
 have HF:=hid hf
 have hp:0<zay e z:=zbF hz
 obtain ⟨A,c,hb,h1,h2,h3,h4⟩:=h
 have HS:Hid (Sees .u8 w A l):=hid (h4.sees (Nat.le_of_lt hb.lt))
 obtain ⟨c0,c1,f0,f1⟩:=blk2 hb
 clear hb h1 h4 hr h8 hf
 go_enter Tryz.func82,Tryz.ntmps82
 go_wp2_with fail
 with_reducible refine (zcY A l c _ hl H8.out HS.out).mono ?_
 rintro en w1 ⟨rfl,rfl⟩
 rw [HR.out]
 go_wp2_with fail
 with_reducible refine (zbI g l e z _ _ HI.out (by omega)).mono ?_
 rintro en w1 ⟨rfl,hin,hg⟩
 rw [zdU hz HF.out] at hin
 have HT:=hid hin
 have HG:=hid hg
 clear hin hg c0 c1 f0 f1 h2 h3 HS HI
 go_wp2_with fail
 with_reducible refine (zf2 g [] (zay e z) 0 _ _ HT.out (by omega) (by simp)).mono ?_
 rintro en w2 ⟨⟨A1,rfl,_,_⟩,hin,hg⟩
 have HT2:Hid (InAt w2 g [] (zay e z)):=hid hin
 have HG2:=hid (HG.out.trans hg)
 clear hin hg
 go_wp2_with fail
 with_reducible refine (zaU g [] (zay e z) _ HT2.out hp).mono ?_
 rintro en w3 ⟨rfl,rfl⟩
 go_wp2
 go_ret
 exact ⟨rfl,HT2.out,HG2.out⟩
theorem zn8 (g:Nat) (l:List Nat) (v n:Nat) (most:Nat) (w:World) (h:InAt w g l 0) (hl:l.length≤9223372036854775807) (h8:∀x∈l,x<256) (hr:zbQ l=(v,n,0)) (hm:most<v) :
  Calls Tryz.prog 82 #[.pointer (some ⟨g,0,none⟩),.int .u64 (most:Int)] w (zbE (fun en=>en=.returned (.int .u64 0)) g [] 12 w):=by
 have HI:=hid h
 have HR:=hid hr
 have H8:=hid h8
 have hn:0<n:=by have:=(zey h8 hr).1;have:=zeI v;omega
 obtain ⟨A,c,hb,h1,h2,h3,h4⟩:=h
 have HS:Hid (Sees .u8 w A l):=hid (h4.sees (Nat.le_of_lt hb.lt))
 obtain ⟨c0,c1,f0,f1⟩:=blk2 hb
 clear hb h1 h4 hr h8
 go_enter Tryz.func82,Tryz.ntmps82
 go_wp2_with fail
 with_reducible refine (zcY A l c _ hl H8.out HS.out).mono ?_
 rintro en w1 ⟨rfl,rfl⟩
 rw [HR.out]
 go_wp2_with fail
 with_reducible refine (zbI g l 0 0 _ _ HI.out (by omega)).mono ?_
 rintro en w1 ⟨rfl,hin,hg⟩
 rw [zh6,zg6] at hin
 have HT:=hid hin
 have HG:=hid hg
 clear hin hg c0 c1 f0 f1 h2 h3 HS HI
 go_wp2_with fail
 with_reducible refine (zbI g l 0 12 _ _ HT.out (by omega)).mono ?_
 rintro en w2 ⟨rfl,hin,hg⟩
 rw [zdU (by omega) (fun h=>absurd rfl h),zlA] at hin
 have HT2:=hid hin
 have HG2:=hid (HG.out.trans hg)
 clear hin hg HT HG
 go_wp2_with fail
 with_reducible refine (ziN g [] 12 n _ _ HT2.out (by omega) (by simpa using hn)).mono ?_
 rintro en w3 ⟨rfl,hin,hg⟩
 have HT3:Hid (InAt w3 g [] 12):=hid hin
 have HG3:=hid (HG2.out.trans hg)
 clear hin hg
 go_wp2_with fail
 with_reducible refine (zaU g [] 12 _ HT3.out (by omega)).mono ?_
 rintro en w4 ⟨rfl,rfl⟩
 go_wp2
 go_ret
 exact ⟨rfl,HT3.out,HG3.out⟩
theorem zod (g:Nat) (l:List Nat) (v n:Nat) (most:Int) (w:World) (h:InAt w g l 0) (hl:l.length≤9223372036854775807) (h8:∀x∈l,x<256) (hr:zbQ l=(v,n,0)) (hm:(v:Int)≤most) :
  Calls Tryz.prog 82 #[.pointer (some ⟨g,0,none⟩),.int .u64 most] w (zbE (fun en=>en=.returned (.int .u64 (v:Int))) g (l.drop n) 0 w):=by
 have HI:=hid h
 have HR:=hid hr
 have H8:=hid h8
 have hn:n≤l.length:=(zey h8 hr).2.1
 obtain ⟨A,c,hb,h1,h2,h3,h4⟩:=h
 have HS:Hid (Sees .u8 w A l):=hid (h4.sees (Nat.le_of_lt hb.lt))
 obtain ⟨c0,c1,f0,f1⟩:=blk2 hb
 clear hb h1 h4 hr h8
 go_enter Tryz.func82,Tryz.ntmps82
 go_wp2_with fail
 with_reducible refine (zcY A l c _ hl H8.out HS.out).mono ?_
 rintro en w1 ⟨rfl,rfl⟩
 rw [HR.out]
 go_wp2_with fail
 with_reducible refine (zbI g l 0 0 _ _ HI.out (by omega)).mono ?_
 rintro en w1 ⟨rfl,hin,hg⟩
 rw [zh6,zg6] at hin
 have HT:=hid hin
 have HG:=hid hg
 clear hin hg c0 c1 f0 f1 h2 h3 HS HI
 go_wp2_with fail
 with_reducible refine (zf2 g l 0 n _ _ HT.out (by omega) hn).mono ?_
 rintro en w3 ⟨⟨A1,rfl,_,_⟩,hin,hg⟩
 have HT3:=hid hin
 have HG3:=hid (HG.out.trans hg)
 clear hin hg
 go_wp2_with fail
 with_reducible refine (zcL g (l.drop n) _ HT3.out).mono ?_
 rintro en w4 ⟨rfl,rfl⟩
 go_wp2
 go_ret
 exact ⟨rfl,HT3.out,HG3.out⟩
theorem za6 (g:Nat) (l:List Nat) (e most:Nat) (a:Int) (l':List Nat) (e' v:Nat) (w:World) (h:InAt w g l e) (hf:Fine l e) (h8:∀x∈l,x<256) (hl:l.length≤9223372036854775807) (ha:a=(most:Int)) (hs:zal l e most=(l',e',v)) :
  Calls Tryz.prog 82 #[.pointer (some ⟨g,0,none⟩),.int .u64 a] w (zbE (fun en=>en=.returned (.int .u64 (v:Int))) g l' e' w):=by
 subst ha
 unfold zal at hs
 by_cases hz:(zbQ l).2.2=0
 ·rw [if_pos hz] at hs
  obtain rfl:=zdb hf (zl2 hz)
  have hr:zbQ l=((zbQ l).1,(zbQ l).2.1,0):=by rw [←hz]
  by_cases hm:most<(zbQ l).1
  ·rw [if_pos hm] at hs
   simp only [Prod.mk.injEq] at hs
   obtain ⟨rfl,rfl,rfl⟩:=hs
   exact zn8 g l _ _ most w h hl h8 hr hm
  ·rw [if_neg hm] at hs
   simp only [Prod.mk.injEq] at hs
   obtain ⟨rfl,rfl,rfl⟩:=hs
   exact zod g l _ _ _ w h hl h8 hr (by omega)
 ·rw [if_neg hz] at hs
  simp only [Prod.mk.injEq] at hs
  obtain ⟨rfl,rfl,rfl⟩:=hs
  exact zot g l e _ _ w (by omega) h hf hl h8 (zmW hz) (by omega)
theorem zoj (g:Nat) (l:List Nat) (e:Nat) (w:World) (h:InAt w g l e) (hf:Fine l e) (hk:l.length<8) :
  Calls Tryz.prog 126 #[.pointer (some ⟨g,0,none⟩)] w (zbE (fun en=>en=.returned (.int .u64 0)) g [] (zay e 20) w):=by
 have HI:=hid h
 have HF:=hid hf
 clear h hf
 go_enter Tryz.func126,Tryz.ntmps126
 go_wp2_with fail
 with_reducible refine (ziN g l e 8 _ _ HI.out (by omega) hk).mono ?_
 rintro en w1 ⟨rfl,hin,hg⟩
 rw [zdU (by omega) HF.out] at hin
 have HT:=hid hin
 have HG:=hid hg
 clear hin hg
 go_wp2_with fail
 with_reducible refine (zkW none 0 0 _ (by omega)).mono ?_
 rintro en w2 ⟨rfl,rfl⟩
 go_wp2
 go_ret
 exact ⟨rfl,HT.out,HG.out⟩
theorem zm0 (g:Nat) (l:List Nat) (w:World) (h:InAt w g l 0) (h8:∀x∈l,x<256) (hk:8≤l.length) :
  Calls Tryz.prog 126 #[.pointer (some ⟨g,0,none⟩)] w (zbE (fun en=>en=.returned (.int .u64 (numN (l.take 8):Int))) g (l.drop 8) 0 w):=by
 have HI:=hid h
 have H8:=hid h8
 clear h h8
 go_enter Tryz.func126,Tryz.ntmps126
 go_wp2_with fail
 with_reducible refine (zf2 g l 0 8 _ _ HI.out (by omega) hk).mono ?_
 rintro en w1 ⟨⟨A1,rfl,_,hs⟩,hin,hg⟩
 have hlen:(l.take 8).length=8:=by rw [List.length_take];omega
 have HT:=hid hin
 have HG:=hid hg
 obtain ⟨b,o,rfl⟩:∃b o,A1=some ⟨b,o,none⟩:=by
  obtain ⟨b,o,h,_,_⟩:=hs 0 ((l.take 8)[0]'(by omega)) (List.getElem?_eq_getElem (by omega))
  exact ⟨b,o,h⟩
 have HR:=hid (znv b o (l.take 8) w1 hlen (fun x hx=>H8.out x (List.mem_of_mem_take hx)) (hs.sees (Nat.le_of_lt HT.out.lt)))
 rw [hlen]
 clear hin hg hs hlen
 go_wp2_with fail
 with_reducible refine HR.out.mono ?_
 rintro en w2 ⟨rfl,rfl⟩
 go_wp2
 go_ret
 exact ⟨rfl,HT.out,HG.out⟩
theorem zcf (g:Nat) (l:List Nat) (e:Nat) (l':List Nat) (e' v:Nat) (w:World) (h:InAt w g l e) (hf:Fine l e) (h8:∀x∈l,x<256) (hs:zb1 l e=(l',e',v)) :
  Calls Tryz.prog 126 #[.pointer (some ⟨g,0,none⟩)] w (zbE (fun en=>en=.returned (.int .u64 (v:Int))) g l' e' w):=by
 unfold zb1 at hs
 by_cases hk:l.length<8
 ·rw [if_pos hk] at hs
  simp only [Prod.mk.injEq] at hs
  obtain ⟨rfl,rfl,rfl⟩:=hs
  exact zoj g l e w h hf hk
 ·rw [if_neg hk] at hs
  simp only [Prod.mk.injEq] at hs
  obtain ⟨rfl,rfl,rfl⟩:=hs
  obtain rfl:=zdb hf (by rintro rfl;exact hk (by simp))
  exact zm0 g l w h h8 (by omega)
def News (l:List Nat) (w:World) (en:Ending) (w':World):Prop:=∃g,en=.returned (.pointer (some ⟨g,0,none⟩))∧InAt w' g l 0∧Below w.heap.size w w'∧w.heap.size≤g
theorem zrY {l:List Nat} {w w1:World} {s:Value} (hown:w1.ownsRow w.heap.size 5 1 s l.length (l.map bv)) (hb:Below w.heap.size w w1) :
  News l w (.returned (.pointer (some ⟨w1.heap.size,0,none⟩))) (w1.alloc (.cells #[s,.int .i64 0] 190)):=by
 have hsz:=hb.size
 refine ⟨w1.heap.size,rfl,?_,hb.alloc hsz _,hsz⟩
 have hbl:=Blk.new w1 190 #[s,.int .i64 0]
 have hal:Below w1.heap.size w1 (w1.alloc (.cells #[s,.int .i64 0] 190)):=(Below.refl _ _).alloc (Nat.le_refl _) _
 rcases hown.2 with ⟨rfl,h0⟩ | ⟨g,cap,cur,rfl,_,_,hc,hm,_,_⟩
 ·have:l=[]:=List.eq_nil_of_length_eq_zero h0
  subst this
  exact ⟨none,0,hbl,fun _=>rfl,Nat.le_refl _,by omega,Held.nil _ _ _⟩
 ·exact ⟨_,cap,hbl,fun h=>(by cases h),hc,by unfold maxLen at hm;omega,((Sees.of_own hown).held).below hal⟩
theorem zgZ (A:Option Addr) (l:List Nat) (n c:Nat) (w:World) (hn:l.length=n) (hl:n≤140737488355328) (hc:A=none→c=0) (hA:Sees .u8 w A l) :
  Calls Tryz.prog 80 #[.slice A n c] w (News l w):=by
 have HA:=hid hA
 have HN:=hid hn
 have HC:=hid hc
 clear hA hn hc
 go_enter Tryz.func80,Tryz.ntmps80
 go_wp2_with fail
 with_reducible refine (zfu A l n c _ HN.out hl HC.out HA.out).mono ?_
 rintro en w1 ⟨s,rfl,hown,hb⟩
 obtain ⟨A1,c1,rfl,_,_,_⟩:=zda hown
 have HM:=hid (zrY hown hb)
 clear hown hb
 go_wp2
 go_ret
 exact HM.out
def zc6 (l:List Nat) (e most:Nat):List Nat × Nat × List Nat :=
 if (zal l e most).2.1=0∧(zal l e most).2.2≤(zal l e most).1.length then ((zal l e most).1.drop (zal l e most).2.2,0,(zal l e most).1.take (zal l e most).2.2)
 else ([],zay (zal l e most).2.1 20,[])
theorem zeM {l:List Nat} {e most:Nat} (h:(zal l e most).2.1≠0) (hf:Fine l e):(zal l e most).1=[]∧(zal l e most).2.2=0:=by
 unfold zal at h ⊢
 by_cases hz:(zbQ l).2.2=0
 ·rw [if_pos hz] at h ⊢
  by_cases hm:most<(zbQ l).1
  ·rw [if_pos hm];exact ⟨rfl,rfl⟩
  ·rw [if_neg hm] at h
   exact absurd (zdb hf (zl2 hz)) h
 ·rw [if_neg hz];exact ⟨rfl,rfl⟩
theorem zce {l:List Nat} {e most:Nat}:(zal l e most).2.2≤most:=by
 unfold zal
 split
 ·split
  ·exact Nat.zero_le _
  ·show (zbQ l).1≤most;omega
 ·exact Nat.zero_le _
theorem zjD {l:List Nat} {e most:Nat}:∀x∈(zal l e most).1,x∈l:=by
 unfold zal
 split
 ·split
  ·intro x hx;cases hx
  ·intro x hx;exact List.mem_of_mem_drop hx
 ·intro x hx;cases hx
theorem ziz {l:List Nat} {e most:Nat}:(zal l e most).1.length≤l.length:=by
 unfold zal
 split
 ·split
  ·simp
  ·show (l.drop _).length≤_;rw [List.length_drop];omega
 ·simp
theorem ztN (g:Nat) (l l1:List Nat) (e most n:Nat) (a:Int) (w:World) (h:InAt w g l e) (hf:Fine l e) (h8:∀x∈l,x<256) (hl:l.length≤9223372036854775807) (ha:a=(most:Int)) (hm:most≤9223372036854775807) (hn:n≤most)
  (hs:zal l e most=(l1,0,n)) (hk:n≤l1.length) :
  Calls Tryz.prog 125 #[.pointer (some ⟨g,0,none⟩),.int .i64 a] w (zbE (fun en=>en=.returned (.string (strN (l1.take n)))) g (l1.drop n) 0 w):=by
 subst ha
 have HI:=hid h
 have HF:=hid hf
 have H8:=hid h8
 have HS:=hid hs
 clear h hf h8 hs
 have hmx:∀(w:World) (ts:Array TypeId) (t:TypeId),(Builtin.max_ ts t #[.int .i64 (most:Int),.int .i64 0]).run Tryz.prog w=.ok (.int .i64 (most:Int)) w:=fun w ts t=>by
  simp [Builtin.max_,Builtin.max2]
  try omega
 have hcv:=fun (w:World) (A:Option Addr) (hS:Sees .u8 w A (l1.take n))=>zdw hS (show (l1.take n).length=n by rw [List.length_take];omega) n
 have HCV:=hid hcv
 clear hcv
 go_enter Tryz.func125,Tryz.ntmps125
 go_wp2_with fail
 with_reducible refine (za6 g l e most _ l1 0 n _ HI.out HF.out H8.out hl (by omega) HS.out).mono ?_
 rintro en w1 ⟨rfl,hin,hg⟩
 have HT:=hid hin
 have HG:=hid hg
 clear hin hg hmx
 go_wp2_with fail
 with_reducible refine (zf2 g l1 0 n _ _ HT.out (by omega) hk).mono ?_
 rintro en w2 ⟨⟨A1,rfl,_,hs⟩,hin,hg⟩
 have HT2:=hid hin
 have HG2:=hid (HG.out.trans hg)
 have hl2:(l1.take n).length=n:=by rw [List.length_take];omega
 have hc2:=HCV.out w2 A1 (hs.sees (Nat.le_of_lt HT2.out.lt))
 rw [hl2]
 clear hin hg hs hl2
 go_wp2
 go_ret
 exact ⟨rfl,HT2.out,HG2.out⟩
theorem zto (g:Nat) (l l1:List Nat) (e e1 most n:Nat) (a:Int) (w:World) (h:InAt w g l e) (hf:Fine l e) (h8:∀x∈l,x<256) (hl:l.length≤9223372036854775807) (ha:a=(most:Int)) (hm:most≤9223372036854775807) (hn:n≤most)
  (hs:zal l e most=(l1,e1,n)) (hk:e1≠0∨l1.length<n) :
  Calls Tryz.prog 125 #[.pointer (some ⟨g,0,none⟩),.int .i64 a] w (zbE (fun en=>en=.returned (.string (strN []))) g [] (zay e1 20) w):=by
 subst ha
 have hbad:e1≠0→l1=[]∧n=0:=fun h0=>by
  have:=zeM (l:=l) (e:=e) (most:=most) (by rw [hs];exact h0) hf
  rw [hs] at this
  exact this
 have HI:=hid h
 have HF:=hid hf
 have H8:=hid h8
 have HS:=hid hs
 clear h hf h8 hs
 have hmx:∀(w:World) (ts:Array TypeId) (t:TypeId),(Builtin.max_ ts t #[.int .i64 (most:Int),.int .i64 0]).run Tryz.prog w=.ok (.int .i64 (most:Int)) w:=fun w ts t=>by
  simp [Builtin.max_,Builtin.max2]
  try omega
 have hcv:=fun (w:World) (A:Option Addr)=>zdw (w:=w) (A:=A) (l:=[]) (n:=0) (Sees.nil _ _ _) rfl 0
 by_cases h0:e1=0
 ·subst h0
  have hk':l1.length<n:=by
   rcases hk with h | h
   ·exact absurd rfl h
   ·exact h
  clear hk hbad
  go_enter Tryz.func125,Tryz.ntmps125
  go_wp2_with fail
  with_reducible refine (za6 g l e most _ l1 0 n _ HI.out HF.out H8.out hl (by omega) HS.out).mono ?_
  rintro en w1 ⟨rfl,hin,hg⟩
  have HT:=hid hin
  have HG:=hid hg
  clear hin hg hmx
  go_wp2_with fail
  with_reducible refine (ziN g l1 0 n _ _ HT.out (by omega) hk').mono ?_
  rintro en w2 ⟨rfl,hin,hg⟩
  rw [zdU (by omega) (fun h=>absurd rfl h)] at hin
  have HT2:=hid hin
  have HG2:=hid (HG.out.trans hg)
  clear hin hg
  go_wp2
  go_ret
  exact ⟨rfl,HT2.out,HG2.out⟩
 ·obtain ⟨rfl,rfl⟩:=hbad h0
  have HE:Hid (zay e1 20=e1):=hid (by unfold zay;rw [if_neg h0])
  clear hk hbad h0
  go_enter Tryz.func125,Tryz.ntmps125
  go_wp2_with fail
  with_reducible refine (za6 g l e most _ [] e1 0 _ HI.out HF.out H8.out hl (by omega) HS.out).mono ?_
  rintro en w1 ⟨rfl,hin,hg⟩
  have HT:=hid hin
  have HG:=hid hg
  clear hin hg hmx
  go_wp2_with fail
  with_reducible refine (zf2 g [] e1 0 _ _ HT.out (by omega) (by simp)).mono ?_
  rintro en w2 ⟨⟨A1,rfl,_,_⟩,hin,hg⟩
  have HT2:Hid (InAt w2 g [] e1):=hid hin
  have HG2:=hid (HG.out.trans hg)
  clear hin hg
  go_wp2
  go_ret
  exact ⟨rfl,by rw [HE.out];exact HT2.out,HG2.out⟩
theorem zbS (g:Nat) (l:List Nat) (e most:Nat) (a:Int) (l':List Nat) (e':Nat) (s:List Nat) (w:World) (h:InAt w g l e) (hf:Fine l e) (h8:∀x∈l,x<256) (hl:l.length≤9223372036854775807) (ha:a=(most:Int)) (hm:most≤9223372036854775807) (hs:zc6 l e most=(l',e',s)) :
  Calls Tryz.prog 125 #[.pointer (some ⟨g,0,none⟩),.int .i64 a] w (zbE (fun en=>en=.returned (.string (strN s))) g l' e' w):=by
 have e3:zal l e most=((zal l e most).1,(zal l e most).2.1,(zal l e most).2.2):=rfl
 unfold zc6 at hs
 by_cases hc:(zal l e most).2.1=0∧(zal l e most).2.2≤(zal l e most).1.length
 ·rw [if_pos hc] at hs
  simp only [Prod.mk.injEq] at hs
  obtain ⟨rfl,rfl,rfl⟩:=hs
  rw [hc.1] at e3
  exact ztN g l _ e most _ a w h hf h8 hl ha hm zce e3 hc.2
 ·rw [if_neg hc] at hs
  simp only [Prod.mk.injEq] at hs
  obtain ⟨rfl,rfl,rfl⟩:=hs
  exact zto g l _ e _ most _ a w h hf h8 hl ha hm zce e3 (by omega)
end Go.Proofs.YtnjdckoljmgcjaaGreatDoor
namespace Go.Proofs.YtnjdckoljmgcjaaGreatDoor
open Go.ChangeShapes Go.WideShapes Go.ChangeAt Go.RowKit Go.Lib
theorem zqE (v:Nat) (r:List Nat):zbc ([v] ++ r) 0=(r,0,v):=rfl
theorem zcm (v most:Nat) (r:List Nat) (hv:v<18446744073709551616) (hm:v≤most):zal (zae v ++ r) 0 most=(r,0,v):=by
 unfold zal
 rw [zha v r hv]
 simp only [if_true]
 rw [if_neg (by omega),List.drop_left]
theorem zng (v:Nat) (r:List Nat) (hv:v<18446744073709551616):zb1 (zar v 8 ++ r) 0=(r,0,v):=by
 have hl:=zbt 8 v
 unfold zb1
 rw [if_neg (by simp [hl]),List.drop_left' hl,List.take_left' hl,zk1,Nat.mod_eq_of_lt (by omega)]
theorem zj8 (s:ByteArray) (r:List Nat) (most:Nat) (hm:s.size≤most) (hs:s.size<18446744073709551616):zc6 (zdJ s ++ r) 0 most=(r,0,zaw s):=by
 have h1:zal (zdJ s ++ r) 0 most=(zaw s ++ r,0,s.size):=by
  unfold zdJ
  rw [List.append_assoc]
  exact zcm s.size most (zaw s ++ r) hs hm
 unfold zc6
 rw [h1]
 have hl:=zaR s
 simp only [true_and]
 rw [if_pos (by rw [List.length_append];omega),List.drop_left' hl,List.take_left' hl]
theorem zuH (l:List Nat):Fine l 0:=fun h=>absurd rfl h
theorem zh1 (s:ByteArray):∀x∈zdJ s,x<256:=by
 intro x hx
 rcases List.mem_append.1 hx with h | h
 ·exact zbo _ x h
 ·exact ziB s x h
theorem zdW {P:Program} {w w':World} {n:String} {cs:Array Value} {g:Nat} {row:Option Nat} (hg:P.globalNamed n=some g) (h:w.var? P n=some cs) (hlt:g<w.heap.size) (hne:some g≠row) (hb:w.grownBy w' row):w'.var? P n=some cs:=by
 unfold World.var? at h ⊢
 rw [hg] at h ⊢
 simp only [Option.bind_some] at h ⊢
 rw [hb.block g hlt hne];exact h
end Go.Proofs.YtnjdckoljmgcjaaGreatDoor
namespace Go.Proofs.YtnjdckoljmgcjaaGreatDoor
open Go.ChangeShapes Go.WideShapes Go.ChangeAt Go.RowKit Go.Lib
set_option linter.unusedVariables false
def zao (l:List Nat) (e:Nat):Prop:=Fine l e∧(∀x∈l,x<256)∧l.length≤9223372036854775807
theorem zao.fine {l:List Nat} {e:Nat} (h:zao l e):Fine l e:=h.1
theorem zao.bytes {l:List Nat} {e:Nat} (h:zao l e):∀x∈l,x<256:=h.2.1
theorem zao.len {l:List Nat} {e:Nat} (h:zao l e):l.length≤9223372036854775807:=h.2.2
theorem zdV (e:Nat):zao [] e:=⟨fun _=>rfl,fun x hx=>(by cases hx),by simp⟩
theorem zc5 {l:List Nat} {e x:Nat} (hx:0<x) (h:zao l e):zao (zbs e x l) (zay e x):=by
 have hn:zbs e x l=[]:=zdU hx (fun h0=>h.1 h0)
 rw [hn];exact zdV _
theorem zcg {l:List Nat} {e:Nat} {l':List Nat} {e' v:Nat} (h:zao l e) (hs:zbc l e=(l',e',v)):zao l' e'∧v<256:=by
 cases l with
 | nil =>
  simp only [zbc,Prod.mk.injEq] at hs
  obtain ⟨rfl,rfl,rfl⟩:=hs
  exact ⟨zdV _,by omega⟩
 | cons b t =>
  have he:=zdb h.1 (by simp)
  simp only [zbc,Prod.mk.injEq] at hs
  obtain ⟨rfl,rfl,rfl⟩:=hs
  refine ⟨⟨fun h0=>absurd he h0,fun x hx=>h.2.1 x (List.mem_cons_of_mem _ hx),?_⟩,h.2.1 b (by simp)⟩
  have:=h.2.2
  simp at this
  omega
theorem zax {l:List Nat} {e most:Nat} {l':List Nat} {e' v:Nat} (h:zao l e) (hs:zal l e most=(l',e',v)):zao l' e'∧v≤most:=by
 have h1:=fun h0=>(zeM (l:=l) (e:=e) (most:=most) h0 h.1).1
 have h2:=zjD (l:=l) (e:=e) (most:=most)
 have h3:=ziz (l:=l) (e:=e) (most:=most)
 have h4:=zce (l:=l) (e:=e) (most:=most)
 rw [hs] at h1 h2 h3 h4
 exact ⟨⟨h1,fun x hx=>h.2.1 x (h2 x hx),Nat.le_trans h3 h.2.2⟩,h4⟩
theorem zbH {l:List Nat} {e:Nat} {l':List Nat} {e' v:Nat} (h:zao l e) (hs:zb1 l e=(l',e',v)):zao l' e'∧v<18446744073709551616:=by
 unfold zb1 at hs
 by_cases hk:l.length<8
 ·rw [if_pos hk] at hs
  simp only [Prod.mk.injEq] at hs
  obtain ⟨rfl,rfl,rfl⟩:=hs
  exact ⟨zdV _,by omega⟩
 ·rw [if_neg hk] at hs
  simp only [Prod.mk.injEq] at hs
  obtain ⟨rfl,rfl,rfl⟩:=hs
  have he:=zdb h.1 (by rintro rfl;simp at hk)
  refine ⟨⟨fun h0=>absurd he h0,fun x hx=>h.2.1 x (List.mem_of_mem_drop hx),?_⟩,?_⟩
  ·rw [List.length_drop];have:=h.2.2;omega
  ·exact Nat.lt_of_lt_of_le (zqW l h.2.1 8) (by decide)
theorem zbi {l:List Nat} {e most:Nat} {l':List Nat} {e':Nat} {s:List Nat} (h:zao l e) (hs:zc6 l e most=(l',e',s)):zao l' e'∧s.length≤most∧∀x∈s,x<256:=by
 obtain ⟨l1,e1,v,h1⟩:∃l1 e1 v,zal l e most=(l1,e1,v):=⟨_,_,_,rfl⟩
 obtain ⟨k1,k2⟩:=zax h h1
 unfold zc6 at hs
 rw [h1] at hs
 simp only at hs
 split at hs
 ·rename_i hc
  simp only [Prod.mk.injEq] at hs
  obtain ⟨rfl,rfl,rfl⟩:=hs
  refine ⟨⟨fun h0=>absurd rfl h0,fun x hx=>k1.2.1 x (List.mem_of_mem_drop hx),?_⟩,?_,fun x hx=>k1.2.1 x (List.mem_of_mem_take hx)⟩
  ·rw [List.length_drop];have:=k1.2.2;omega
  ·rw [List.length_take];omega
 ·simp only [Prod.mk.injEq] at hs
  obtain ⟨rfl,rfl,rfl⟩:=hs
  exact ⟨zdV _,by simp,fun x hx=>(by cases hx)⟩
theorem zf7 {l:List Nat} {e:Nat} {l':List Nat} {e':Nat} {v:Bool} (h:zao l e) (hs:zdA l e=(l',e',v)):zao l' e':=by
 cases l with
 | nil =>
  simp only [zdA,Prod.mk.injEq] at hs
  obtain ⟨rfl,rfl,rfl⟩:=hs
  exact zdV _
 | cons b t =>
  have he:=zdb h.1 (by simp)
  simp only [zdA] at hs
  split at hs
  ·simp only [Prod.mk.injEq] at hs
   obtain ⟨rfl,rfl,rfl⟩:=hs
   refine ⟨fun h0=>absurd he h0,fun x hx=>h.2.1 x (List.mem_cons_of_mem _ hx),?_⟩
   have:=h.2.2
   simp at this
   omega
  ·simp only [Prod.mk.injEq] at hs
   obtain ⟨rfl,rfl,rfl⟩:=hs
   exact zdV _
theorem zbG (g:Nat) (l:List Nat) (e:Nat) (l':List Nat) (e' v:Nat) (w:World) (h:InAt w g l e) (hS:zao l e) (hs:zal l e 18446744073709551615=(l',e',v)) :
  Calls Tryz.prog 192 #[.pointer (some ⟨g,0,none⟩)] w (zbE (fun en=>en=.returned (.int .u64 (v:Int))) g l' e' w):=by
 have HI:=hid h
 have H8:=hid hS
 have HS:=hid hs
 clear h hS hs
 go_enter Tryz.func192,Tryz.ntmps192
 go_wp2_with fail
 with_reducible refine (za6 g l e 18446744073709551615 18446744073709551615 l' e' v _ HI.out H8.out.fine H8.out.bytes H8.out.len rfl HS.out).mono ?_
 rintro en w1 ⟨rfl,hin,hg⟩
 have HT:=hid hin
 have HG:=hid hg
 clear hin hg
 go_wp2
 go_ret
 exact ⟨rfl,HT.out,HG.out⟩
def zbN (w0 w:World) (g b:Nat) (c:K) (l:List Nat) (e:Nat):Prop:=InAt w g l e∧Blk w b 61 (cellsOf c)∧w0.heap.size≤b∧w0.grownBy w (some g)∧zad w∧0<g∧g<w0.heap.size
theorem zbN.start {w:World} {g:Nat} {l:List Nat} {e:Nat} (h:InAt w g l e) (hP:zad w) (hg:0<g) (c:K):zbN w (w.alloc (.cells (cellsOf c) 61)) g w.heap.size c l e :=
 ⟨h.keep ((Below.refl _ _).alloc (by have:=h.lt;omega) _),Blk.new _ _ _,Nat.le_refl _,zam ((Below.refl _ _).alloc (Nat.le_refl _) _) _,hP.alloc _,hg,h.lt⟩
theorem zbN.parts {w0 w:World} {g b:Nat} {c:K} {l:List Nat} {e:Nat} (h:zbN w0 w g b c l e):zad w:=h.2.2.2.2.1
theorem zbN.iat {w0 w:World} {g b:Nat} {c:K} {l:List Nat} {e:Nat} (h:zbN w0 w g b c l e):InAt w g l e:=h.1
theorem zbN.grown {w0 w:World} {g b:Nat} {c:K} {l:List Nat} {e:Nat} (h:zbN w0 w g b c l e):w0.grownBy w (some g):=h.2.2.2.1
theorem zbN.on {w0 w w':World} {g b:Nat} {c:K} {l:List Nat} {e:Nat} (h:zbN w0 w g b c l e) (hb:Below w.heap.size w w'):zbN w0 w' g b c l e :=
 ⟨h.1.keep (hb.mono h.1.lt),h.2.1.below hb h.2.1.lt,h.2.2.1,zb2 h.2.2.2.1 hb,h.2.2.2.2.1.below hb,h.2.2.2.2.2⟩
theorem zbN.turn {w0 w w':World} {g b:Nat} {c:K} {l l':List Nat} {e e':Nat} (h:zbN w0 w g b c l e) (hi:InAt w' g l' e') (hb:w.grownBy w' (some g)):zbN w0 w' g b c l' e' :=
 ⟨hi,h.2.1.grown hb (by have:=h.2.2.1;have:=h.2.2.2.2.2.2;intro e;injection e with e;omega),h.2.2.1,h.2.2.2.1.trans hb,
  zdW zcx h.2.2.2.2.1 h.2.2.2.2.1.lt (by have:=h.2.2.2.2.2.1;intro e;injection e with e;omega) hb,h.2.2.2.2.2⟩
theorem zbN.set_ {w0 w:World} {g b:Nat} {c:K} {l:List Nat} {e:Nat} (h:zbN w0 w g b c l e) (i:Nat) (u:Value) (c':K) (hc:(cellsOf c).setIfInBounds i u=cellsOf c'):zbN w0 (w.setCell ⟨b,i,none⟩ u) g b c' l e:=by
 have hgb:g<b:=Nat.lt_of_lt_of_le h.2.2.2.2.2.2 h.2.2.1
 have hB:Below (g+1) w (w.setCell ⟨b,i,none⟩ u):=Below.setCell (p:=⟨b,i,none⟩) (Below.refl _ _) hgb u
 exact ⟨h.1.keep hB,hc ▸ h.2.1.set_ i u,h.2.2.1,zaD (p:=⟨b,i,none⟩) h.2.2.2.1 (.inr h.2.2.1) u,zdf zcx h.2.2.2.2.1 (by have:=h.2.2.2.2.2.1;omega) hB,h.2.2.2.2.2⟩
theorem zbN.far {w0 w:World} {g b:Nat} {c:K} {l:List Nat} {e:Nat} (h:zbN w0 w g b c l e) {p:Addr} (hp:b≠p.block) (h0:w0.heap.size≤p.block) (u:Value):zbN w0 (w.setCell p u) g b c l e:=by
 have hgp:g<p.block:=Nat.lt_of_lt_of_le h.2.2.2.2.2.2 h0
 have hB:Below (g+1) w (w.setCell p u):=Below.setCell (p:=p) (Below.refl _ _) hgp u
 exact ⟨h.1.keep hB,h.2.1.far hp u,h.2.2.1,zaD (p:=p) h.2.2.2.1 (.inr h0) u,zdf zcx h.2.2.2.2.1 (by have:=h.2.2.2.2.2.1;omega) hB,h.2.2.2.2.2⟩
theorem zbN.put {w0 w:World} {g b:Nat} {c:K} {l:List Nat} {e:Nat} (h:zbN w0 w g b c l e) (d:K):zbN w0 (putK w b d) g b d l e:=by
 obtain ⟨k,u,f,q,s,m,n,t⟩:=c
 obtain ⟨k',u',f',q',s',m',n',t'⟩:=d
 exact (((((((h.set_ 0 (.int .i64 k') ⟨k',u,f,q,s,m,n,t⟩ rfl).set_ 1 (.int .u64 u') ⟨k',u',f,q,s,m,n,t⟩ rfl).set_ 2 (.string f') ⟨k',u',f',q,s,m,n,t⟩ rfl).set_ 3 (.int .u64 q') ⟨k',u',f',q',s,m,n,t⟩ rfl).set_ 4 (.string s') ⟨k',u',f',q',s',m,n,t⟩ rfl).set_ 5 (.int .i64 m') ⟨k',u',f',q',s',m',n,t⟩ rfl).set_ 6 (.int .u64 n') ⟨k',u',f',q',s',m',n',t⟩ rfl).set_ 7 (.int .i64 t') ⟨k',u',f',q',s',m',n',t'⟩ rfl
end Go.Proofs.YtnjdckoljmgcjaaGreatDoor
namespace Go.Proofs.YtnjdckoljmgcjaaGreatDoor
open Go.Lib
set_option linter.unusedVariables false
set_option linter.unusedSimpArgs false
theorem zaV {e x:Nat} (hx:0<x):zay e x≠0:=by have:=zbF (e:=e) hx;omega
theorem zg1 {l:List Nat} {e:Nat} {l':List Nat} {v:Nat} (h:zao l e) (hs:zbc l e=(l',0,v)):e=0∧l=[v] ++ l':=by
 cases l with
 | nil =>
  simp only [zbc,Prod.mk.injEq] at hs
  exact absurd hs.2.1 (zaV (by omega))
 | cons b t =>
  simp only [zbc,Prod.mk.injEq] at hs
  obtain ⟨rfl,rfl,rfl⟩:=hs
  exact ⟨rfl,rfl⟩
theorem zog {l:List Nat} {e:Nat} {l':List Nat} {v:Bool} (h:zao l e) (hs:zdA l e=(l',0,v)):e=0∧l=[zcv v] ++ l':=by
 cases l with
 | nil =>
  simp only [zdA,Prod.mk.injEq] at hs
  exact absurd hs.2.1 (zaV (by omega))
 | cons b t =>
  simp only [zdA] at hs
  split at hs
  ·rename_i hb
   simp only [Prod.mk.injEq] at hs
   obtain ⟨rfl,rfl,rfl⟩:=hs
   refine ⟨rfl,?_⟩
   have:b=0∨b=1:=by omega
   rcases this with rfl | rfl <;> rfl
  ·simp only [Prod.mk.injEq] at hs
   exact absurd hs.2.1 (by omega)
theorem zcj {l:List Nat} {e most:Nat} {l':List Nat} {v:Nat} (h:zao l e) (hs:zal l e most=(l',0,v)):e=0∧l=zae v ++ l'∧v<18446744073709551616:=by
 obtain ⟨a,b,c,hr⟩:∃a b c,zbQ l=(a,b,c):=⟨_,_,_,rfl⟩
 unfold zal at hs
 rw [hr] at hs
 simp only at hs
 split at hs
 ·rename_i hc
  split at hs
  ·simp only [Prod.mk.injEq] at hs
   exact absurd hs.2.1 (by omega)
  ·simp only [Prod.mk.injEq] at hs
   obtain ⟨rfl,rfl,rfl⟩:=hs
   subst hc
   obtain ⟨h1,h2,h3,h4⟩:=zey h.2.1 hr
   refine ⟨rfl,?_,h4⟩
   rw [←h3,List.take_append_drop]
 ·simp only [Prod.mk.injEq] at hs
  exact absurd hs.2.1 (zaV (by omega))
theorem zlN (n:Nat):∀l:List Nat,l.length=n→(∀x∈l,x<256)→zar (numN l) n=l:=by
 induction n with
 | zero=>intro l hl _;rw [List.eq_nil_of_length_eq_zero hl];rfl
 | succ n ih =>
  intro l hl h8
  have hne:l≠[]:=by rintro rfl;simp at hl
  have hd:=List.dropLast_concat_getLast hne
  have hc:=h8 _ (List.getLast_mem hne)
  generalize l.getLast hne=c at hd hc
  have hi:=ih l.dropLast (by rw [List.length_dropLast];omega) (fun x hx=>h8 x (List.dropLast_subset l hx))
  rw [←hd,zhp,zar,show (numN l.dropLast * 256+c) / 256=numN l.dropLast by omega,show (numN l.dropLast * 256+c) % 256=c by omega,hi]
theorem znf {l:List Nat} {e:Nat} {l':List Nat} {v:Nat} (h:zao l e) (hs:zb1 l e=(l',0,v)):e=0∧l=zar v 8 ++ l':=by
 unfold zb1 at hs
 split at hs
 ·simp only [Prod.mk.injEq] at hs
  exact absurd hs.2.1 (zaV (by omega))
 ·rename_i hk
  simp only [Prod.mk.injEq] at hs
  obtain ⟨rfl,rfl,rfl⟩:=hs
  refine ⟨rfl,?_⟩
  rw [zlN 8 (l.take 8) (by rw [List.length_take];omega) (fun x hx=>h.2.1 x (List.mem_of_mem_take hx)),List.take_append_drop]
theorem zgE (s:List Nat):(strN s).size=s.length:=by unfold strN;rw [strOfNums_size];simp
theorem ziO {s:List Nat} (h:∀x∈s,x<256):zaw (strN s)=s:=by
 unfold zaw strN
 rw [strOfNums_data,List.map_map,List.map_map]
 conv=>rhs;rw [←List.map_id s]
 apply List.map_congr_left
 intro x hx
 have:=h x hx
 simp
 omega
theorem zjW {l:List Nat} {e most:Nat} {l':List Nat} {s:List Nat} (h:zao l e) (hs:zc6 l e most=(l',0,s)):e=0∧l=zdJ (strN s) ++ l':=by
 obtain ⟨l1,e1,v,h1⟩:∃l1 e1 v,zal l e most=(l1,e1,v):=⟨_,_,_,rfl⟩
 obtain ⟨k1,k2⟩:=zax h h1
 unfold zc6 at hs
 rw [h1] at hs
 simp only at hs
 split at hs
 ·rename_i hc
  obtain ⟨hc0,hc1⟩:=hc
  subst hc0
  simp only [Prod.mk.injEq] at hs
  obtain ⟨rfl,_,rfl⟩:=hs
  obtain ⟨i1,i2,_⟩:=zcj h h1
  refine ⟨i1,?_⟩
  have hl:(l1.take v).length=v:=by rw [List.length_take];omega
  unfold zdJ
  rw [zgE,hl,ziO (fun x hx=>k1.2.1 x (List.mem_of_mem_take hx)),List.append_assoc,List.take_append_drop]
  exact i2
 ·simp only [Prod.mk.injEq] at hs
  exact absurd hs.2.1 (zaV (by omega))
def tk0 (k:Int) (l:List Nat) (e:Nat):List Nat × Nat × Nat × List Nat :=
 if h0 k then ((zc6 (zb1 l e).1 (zb1 l e).2.1 64).1,(zc6 (zb1 l e).1 (zb1 l e).2.1 64).2.1,(zb1 l e).2.2,(zc6 (zb1 l e).1 (zb1 l e).2.1 64).2.2) else (l,e,0,[])
def tk1 (k:Int) (l:List Nat) (e:Nat):List Nat × Nat × Nat:=if h1 k then zal l e 18446744073709551615 else (l,e,0)
def tk2 (k:Int) (l:List Nat) (e:Nat):List Nat × Nat × List Nat:=if h2 k then zc6 l e 64 else (l,e,[])
def tk3 (k:Int) (l:List Nat) (e:Nat):List Nat × Nat × Nat:=if h3 k then zbc l e else (l,e,0)
def tk4 (k:Int) (l:List Nat) (e:Nat):List Nat × Nat × Nat:=if h4 k then zal l e 18446744073709551615 else (l,e,0)
def tk5 (k:Int) (l:List Nat) (e:Nat):List Nat × Nat × Nat:=if h5 k then zal l e 1099511627776 else (l,e,0)
def zec (k:Int) (l:List Nat) (e:Nat):List Nat × Nat × K :=
 match tk0 k l e with
 | (l1,e1,u,fb)=>match tk1 k l1 e1 with
  | (l2,e2,q)=>match tk2 k l2 e2 with
   | (l3,e3,pb)=>match tk3 k l3 e3 with
    | (l4,e4,m)=>match tk4 k l4 e4 with
     | (l5,e5,n)=>match tk5 k l5 e5 with
      | (l6,e6,t)=>(l6,e6,⟨k,u,strN fb,q,strN pb,m,n,t⟩)
theorem zgk {k:Int} {l:List Nat} {e:Nat} {l':List Nat} {e':Nat} {c:K} (hs:zec k l e=(l',e',c)) :
  ∃l1 e1 l2 e2 l3 e3 l4 e4 l5 e5 u fb q pb m n t,tk0 k l e=(l1,e1,u,fb)∧tk1 k l1 e1=(l2,e2,q)∧tk2 k l2 e2=(l3,e3,pb)∧tk3 k l3 e3=(l4,e4,m)∧tk4 k l4 e4=(l5,e5,n)∧tk5 k l5 e5=(l',e',t) ∧
   c=⟨k,((u:Nat):Int),strN fb,((q:Nat):Int),strN pb,((m:Nat):Int),((n:Nat):Int),((t:Nat):Int)⟩:=by
 obtain ⟨l1,e1,u,fb,a0⟩:∃a b c d,tk0 k l e=(a,b,c,d):=⟨_,_,_,_,rfl⟩
 obtain ⟨l2,e2,q,a1⟩:∃a b c,tk1 k l1 e1=(a,b,c):=⟨_,_,_,rfl⟩
 obtain ⟨l3,e3,pb,a2⟩:∃a b c,tk2 k l2 e2=(a,b,c):=⟨_,_,_,rfl⟩
 obtain ⟨l4,e4,m,a3⟩:∃a b c,tk3 k l3 e3=(a,b,c):=⟨_,_,_,rfl⟩
 obtain ⟨l5,e5,n,a4⟩:∃a b c,tk4 k l4 e4=(a,b,c):=⟨_,_,_,rfl⟩
 obtain ⟨l6,e6,t,a5⟩:∃a b c,tk5 k l5 e5=(a,b,c):=⟨_,_,_,rfl⟩
 unfold zec at hs
 simp only [a0,a1,a2,a3,a4,a5,Prod.mk.injEq] at hs
 obtain ⟨rfl,rfl,rfl⟩:=hs
 exact ⟨l1,e1,l2,e2,l3,e3,l4,e4,l5,e5,u,fb,q,pb,m,n,t,a0,a1,a2,a3,a4,a5,rfl⟩
theorem zqA {k:Int} {l:List Nat} {e:Nat} {l':List Nat} {e' u:Nat} {s:List Nat} (h:zao l e) (hs:tk0 k l e=(l',e',u,s)) :
  zao l' e'∧u<18446744073709551616∧s.length≤64∧(e'=0→e=0∧l=(if h0 k then zar u 8 ++ zdJ (strN s) else []) ++ l'):=by
 obtain ⟨l1,e1,v,a1⟩:∃a b c,zb1 l e=(a,b,c):=⟨_,_,_,rfl⟩
 obtain ⟨l2,e2,t,a2⟩:∃a b c,zc6 l1 e1 64=(a,b,c):=⟨_,_,_,rfl⟩
 unfold tk0 at hs
 cases hk:h0 k
 ·simp only [hk,Bool.false_eq_true,if_false,Prod.mk.injEq] at hs
  obtain ⟨rfl,rfl,rfl,rfl⟩:=hs
  exact ⟨h,by omega,by simp,fun h=>⟨h,by simp⟩⟩
 ·simp only [hk,if_true,a1,a2,Prod.mk.injEq] at hs
  obtain ⟨rfl,rfl,rfl,rfl⟩:=hs
  obtain ⟨k1,k2⟩:=zbH h a1
  obtain ⟨m1,m2,m3⟩:=zbi k1 a2
  refine ⟨m1,k2,m2,fun h0=>?_⟩
  subst h0
  obtain ⟨i1,i2⟩:=zjW k1 a2
  subst i1
  obtain ⟨j1,j2⟩:=znf h a1
  exact ⟨j1,by rw [if_pos rfl,j2,i2,List.append_assoc]⟩
theorem zqj {k:Int} {l:List Nat} {e:Nat} {l':List Nat} {e' u:Nat} (h:zao l e) (hs:tk1 k l e=(l',e',u)) :
  zao l' e'∧u<18446744073709551616∧(e'=0→e=0∧l=(if h1 k then zae u else []) ++ l'):=by
 unfold tk1 at hs
 cases hk:h1 k
 ·simp only [hk,Bool.false_eq_true,if_false,Prod.mk.injEq] at hs
  obtain ⟨rfl,rfl,rfl⟩:=hs
  exact ⟨h,by omega,fun h=>⟨h,by simp⟩⟩
 ·simp only [hk,if_true] at hs
  obtain ⟨k1,k2⟩:=zax h hs
  refine ⟨k1,by omega,fun h0=>?_⟩
  subst h0
  obtain ⟨i1,i2,_⟩:=zcj h hs
  exact ⟨i1,by rw [if_pos rfl];exact i2⟩
theorem zqt {k:Int} {l:List Nat} {e:Nat} {l':List Nat} {e':Nat} {s:List Nat} (h:zao l e) (hs:tk2 k l e=(l',e',s)) :
  zao l' e'∧s.length≤64∧(e'=0→e=0∧l=(if h2 k then zdJ (strN s) else []) ++ l'):=by
 unfold tk2 at hs
 cases hk:h2 k
 ·simp only [hk,Bool.false_eq_true,if_false,Prod.mk.injEq] at hs
  obtain ⟨rfl,rfl,rfl⟩:=hs
  exact ⟨h,by simp,fun h=>⟨h,by simp⟩⟩
 ·simp only [hk,if_true] at hs
  obtain ⟨k1,k2,_⟩:=zbi h hs
  refine ⟨k1,k2,fun h0=>?_⟩
  subst h0
  obtain ⟨i1,i2⟩:=zjW h hs
  exact ⟨i1,by rw [if_pos rfl];exact i2⟩
theorem zpb {k:Int} {l:List Nat} {e:Nat} {l':List Nat} {e' u:Nat} (h:zao l e) (hs:tk3 k l e=(l',e',u)) :
  zao l' e'∧u<256∧(e'=0→e=0∧l=(if h3 k then [u] else []) ++ l'):=by
 unfold tk3 at hs
 cases hk:h3 k
 ·simp only [hk,Bool.false_eq_true,if_false,Prod.mk.injEq] at hs
  obtain ⟨rfl,rfl,rfl⟩:=hs
  exact ⟨h,by omega,fun h=>⟨h,by simp⟩⟩
 ·simp only [hk,if_true] at hs
  obtain ⟨k1,k2⟩:=zcg h hs
  refine ⟨k1,k2,fun h0=>?_⟩
  subst h0
  obtain ⟨i1,i2⟩:=zg1 h hs
  exact ⟨i1,by rw [if_pos rfl];exact i2⟩
theorem zox {k:Int} {l:List Nat} {e:Nat} {l':List Nat} {e' u:Nat} (h:zao l e) (hs:tk4 k l e=(l',e',u)) :
  zao l' e'∧u<18446744073709551616∧(e'=0→e=0∧l=(if h4 k then zae u else []) ++ l'):=by
 unfold tk4 at hs
 cases hk:h4 k
 ·simp only [hk,Bool.false_eq_true,if_false,Prod.mk.injEq] at hs
  obtain ⟨rfl,rfl,rfl⟩:=hs
  exact ⟨h,by omega,fun h=>⟨h,by simp⟩⟩
 ·simp only [hk,if_true] at hs
  obtain ⟨k1,k2⟩:=zax h hs
  refine ⟨k1,by omega,fun h0=>?_⟩
  subst h0
  obtain ⟨i1,i2,_⟩:=zcj h hs
  exact ⟨i1,by rw [if_pos rfl];exact i2⟩
theorem zoO {k:Int} {l:List Nat} {e:Nat} {l':List Nat} {e' u:Nat} (h:zao l e) (hs:tk5 k l e=(l',e',u)) :
  zao l' e'∧u≤1099511627776∧(e'=0→e=0∧l=(if h5 k then zae u else []) ++ l'):=by
 unfold tk5 at hs
 cases hk:h5 k
 ·simp only [hk,Bool.false_eq_true,if_false,Prod.mk.injEq] at hs
  obtain ⟨rfl,rfl,rfl⟩:=hs
  exact ⟨h,by omega,fun h=>⟨h,by simp⟩⟩
 ·simp only [hk,if_true] at hs
  obtain ⟨k1,k2⟩:=zax h hs
  refine ⟨k1,k2,fun h0=>?_⟩
  subst h0
  obtain ⟨i1,i2,_⟩:=zcj h hs
  exact ⟨i1,by rw [if_pos rfl];exact i2⟩
def body (c:K):List Nat:=e0 c ++ (e1 c ++ (e2 c ++ (e3 c ++ (e4 c ++ e5 c))))
theorem zrF (c:K):enc c=c.kind.toNat :: body c:=rfl
theorem zgc {k:Int} {l:List Nat} {e:Nat} {l':List Nat} {e':Nat} {c:K} (hk:0≤k∧k<256) (h:zao l e) (hs:zec k l e=(l',e',c)) :
  zao l' e'∧okK c∧c.kind=k∧c.foot.size≤64∧c.path.size≤64∧(e'=0→e=0∧l=body c ++ l'):=by
 obtain ⟨l1,e1,l2,e2,l3,e3,l4,e4,l5,e5,u,fb,q,pb,m,n,t,a0,a1,a2,a3,a4,a5,rfl⟩:=zgk hs
 obtain ⟨s0,b0,d0,i0⟩:=zqA h a0
 obtain ⟨s1,b1,i1⟩:=zqj s0 a1
 obtain ⟨s2,b2,i2⟩:=zqt s1 a2
 obtain ⟨s3,b3,i3⟩:=zpb s2 a3
 obtain ⟨s4,b4,i4⟩:=zox s3 a4
 obtain ⟨s5,b5,i5⟩:=zoO s4 a5
 refine ⟨s5,⟨by simp only;omega,by simp only;omega,by simp only;omega,by simp only;omega,by simp only;omega,by simp only;omega⟩,rfl,by simp only [zgE];exact d0,by simp only [zgE];exact b2,fun h0=>?_⟩
 obtain ⟨z5,j5⟩:=i5 h0
 obtain ⟨z4,j4⟩:=i4 z5
 obtain ⟨z3,j3⟩:=i3 z4
 obtain ⟨z2,j2⟩:=i2 z3
 obtain ⟨z1,j1⟩:=i1 z2
 obtain ⟨z0,j0⟩:=i0 z1
 refine ⟨z0,?_⟩
 rw [j0,j1,j2,j3,j4,j5]
 simp only [body,Proofs.YtnjdckoljmgcjaaGreatDoor.e0,Proofs.YtnjdckoljmgcjaaGreatDoor.e1,Proofs.YtnjdckoljmgcjaaGreatDoor.e2,Proofs.YtnjdckoljmgcjaaGreatDoor.e3,Proofs.YtnjdckoljmgcjaaGreatDoor.e4,Proofs.YtnjdckoljmgcjaaGreatDoor.e5,Int.toNat_natCast,List.append_assoc]
def ziE (l:List Nat) (e:Nat):List Nat × Nat:=if 8<(zbc l e).2.2 then (zbs (zbc l e).2.1 22 (zbc l e).1,zay (zbc l e).2.1 22) else ((zbc l e).1,(zbc l e).2.1)
def zg9 (l:List Nat) (e:Nat):List Nat × Nat × K:=zec ((zbc l e).2.2:Nat) (ziE l e).1 (ziE l e).2
def zj2 (s:List Nat × Nat × K):List Nat × Nat × K :=
 if zaF s.2.2 then (s.1,s.2.1,if s.2.1=0 then s.2.2 else ⟨0,0,⟨#[]⟩,0,⟨#[]⟩,0,0,0⟩) else (zbs s.2.1 10 s.1,zay s.2.1 10,⟨0,0,⟨#[]⟩,0,⟨#[]⟩,0,0,0⟩)
def sCmd (l:List Nat) (e:Nat):List Nat × Nat × K:=zj2 (zg9 l e)
theorem ztL {k:Int} (h:isK k=false) (l:List Nat) (e:Nat):zec k l e=(l,e,⟨k,0,⟨#[]⟩,0,⟨#[]⟩,0,0,0⟩):=by
 have hk:¬(1≤k∧k≤8):=by unfold isK at h;rw [decide_eq_false_iff_not] at h;omega
 have g0:h0 k=false:=decide_eq_false (by omega)
 have g1:h1 k=false:=decide_eq_false (by omega)
 have g2:h2 k=false:=decide_eq_false (by omega)
 have g3:h3 k=false:=decide_eq_false (by omega)
 have g4:h4 k=false:=decide_eq_false (by omega)
 have g5:h5 k=false:=decide_eq_false (by omega)
 unfold zec tk0 tk1 tk2 tk3 tk4 tk5
 simp only [g0,g1,g2,g3,g4,g5,Bool.false_eq_true,if_false]
 rfl
theorem zlX {c:K} (h:isK c.kind=false):zaF c=false:=by unfold zaF;rw [h];rfl
theorem zic:zaF ⟨0,0,⟨#[]⟩,0,⟨#[]⟩,0,0,0⟩=true:=by decide
theorem zik {l:List Nat} {e:Nat} {l':List Nat} {e':Nat} {c:K} (h:zao l e) (hs:sCmd l e=(l',e',c)) :
  zao l' e'∧okK c∧c.foot.size≤64∧c.path.size≤64∧zaF c=true∧(e'=0→e=0∧l=enc c ++ l'):=by
 obtain ⟨l1,e1,b,hb⟩:∃a b c,zbc l e=(a,b,c):=⟨_,_,_,rfl⟩
 obtain ⟨s1,b1⟩:=zcg h hb
 obtain ⟨l2,e2,h2⟩:∃a b,ziE l e=(a,b):=⟨_,_,rfl⟩
 obtain ⟨l3,e3,d,h3⟩:∃x y z,zec (b:Int) l2 e2=(x,y,z):=⟨_,_,_,rfl⟩
 have hk:ziE l e=if 8<b then (zbs e1 22 l1,zay e1 22) else (l1,e1):=by unfold ziE;rw [hb]
 have s2:zao l2 e2:=by
  rw [h2] at hk
  split at hk
  ·simp only [Prod.mk.injEq] at hk
   obtain ⟨rfl,rfl⟩:=hk
   exact zc5 (by omega) s1
  ·simp only [Prod.mk.injEq] at hk
   obtain ⟨rfl,rfl⟩:=hk
   exact s1
 obtain ⟨s3,ok3,k3,f3,p3,i3⟩:=zgc (by omega) s2 h3
 have hz:okK ⟨0,0,⟨#[]⟩,0,⟨#[]⟩,0,0,0⟩:=⟨by simp,by simp,by simp,by simp,by simp,by simp⟩
 have hp:zg9 l e=(l3,e3,d):=by unfold zg9;rw [hb,h2];exact h3
 unfold sCmd at hs
 rw [hp] at hs
 unfold zj2 at hs
 simp only at hs
 cases hr:zaF d
 ·rw [hr] at hs
  simp only [Bool.false_eq_true,if_false,Prod.mk.injEq] at hs
  obtain ⟨rfl,rfl,rfl⟩:=hs
  exact ⟨zc5 (by omega) s3,hz,by decide,by decide,zic,fun h0=>absurd h0 (zaV (by omega))⟩
 ·rw [hr] at hs
  simp only [if_true,Prod.mk.injEq] at hs
  obtain ⟨rfl,rfl,rfl⟩:=hs
  by_cases h0:e3=0
  ·rw [if_pos h0]
   refine ⟨s3,ok3,f3,p3,hr,fun _=>?_⟩
   obtain ⟨z2,j3⟩:=i3 h0
   rw [h2] at hk
   split at hk
   ·simp only [Prod.mk.injEq] at hk
    exact absurd (hk.2.symm.trans z2) (zaV (by omega))
   ·simp only [Prod.mk.injEq] at hk
    obtain ⟨rfl,rfl⟩:=hk
    subst z2
    obtain ⟨z,j⟩:=zg1 h hb
    refine ⟨z,?_⟩
    rw [zrF,k3,Int.toNat_natCast,j,j3]
    rfl
  ·rw [if_neg h0]
   exact ⟨s3,hz,by decide,by decide,zic,fun h=>absurd h h0⟩
theorem znL (c:K) (more:List Nat) (ho:okK c) (hr:zaF c=true):zec c.kind (body c ++ more) 0=(more,0,c):=by
 obtain ⟨r1,r2,r3,r4,r5⟩:=zd4 c ho hr
 obtain ⟨o1,o2,o3,_⟩:=ho
 have he:c=own c:=by
  unfold zaF at hr
  simp only [Bool.and_eq_true,decide_eq_true_eq] at hr
  exact hr.1.2
 have a0:tk0 c.kind (e0 c ++ (e1 c ++ (e2 c ++ (e3 c ++ (e4 c ++ (e5 c ++ more)))))) 0=(e1 c ++ (e2 c ++ (e3 c ++ (e4 c ++ (e5 c ++ more)))),0,(own c).num.toNat,zaw (own c).foot):=by
  unfold tk0 e0 own
  cases h0 c.kind
  ·simp [zaw]
  ·simp only [if_true]
   rw [List.append_assoc,zng _ _ (by omega)]
   simp only
   rw [zj8 _ _ 64 r4 (by omega)]
 have a1:tk1 c.kind (e1 c ++ (e2 c ++ (e3 c ++ (e4 c ++ (e5 c ++ more))))) 0=(e2 c ++ (e3 c ++ (e4 c ++ (e5 c ++ more))),0,(own c).req.toNat):=by
  unfold tk1 e1 own
  cases h1 c.kind
  ·simp
  ·simp only [if_true]
   exact zcm _ _ _ (by omega) (by omega)
 have a2:tk2 c.kind (e2 c ++ (e3 c ++ (e4 c ++ (e5 c ++ more)))) 0=(e3 c ++ (e4 c ++ (e5 c ++ more)),0,zaw (own c).path):=by
  unfold tk2 e2 own
  cases h2 c.kind
  ·simp [zaw]
  ·simp only [if_true]
   exact zj8 _ _ 64 r5 (by omega)
 have a3:tk3 c.kind (e3 c ++ (e4 c ++ (e5 c ++ more))) 0=(e4 c ++ (e5 c ++ more),0,(own c).mode.toNat):=by
  unfold tk3 e3 own
  cases h3 c.kind
  ·simp
  ·simp only [if_true]
   exact zqE _ _
 have a4:tk4 c.kind (e4 c ++ (e5 c ++ more)) 0=(e5 c ++ more,0,(own c).n.toNat):=by
  unfold tk4 e4 own
  cases h4 c.kind
  ·simp
  ·simp only [if_true]
   exact zcm _ _ _ (by omega) (by omega)
 have a5:tk5 c.kind (e5 c ++ more) 0=(more,0,(own c).time.toNat):=by
  unfold tk5 e5 own
  cases h5 c.kind
  ·simp
  ·simp only [if_true]
   exact zcm _ _ _ (by omega) (by omega)
 have hb:body c ++ more=e0 c ++ (e1 c ++ (e2 c ++ (e3 c ++ (e4 c ++ (e5 c ++ more))))):=by unfold body;simp only [List.append_assoc]
 rw [hb]
 unfold zec
 simp only [a0,a1,a2,a3,a4,a5,zi3]
 rw [←he]
 simp only [Prod.mk.injEq,true_and]
 obtain ⟨k,u,f,q,s,m,n,t⟩:=c
 simp only [K.mk.injEq,true_and,and_true] at *
 refine ⟨by omega,by omega,by omega,by omega,by omega⟩
theorem zrx (c:K) (more:List Nat) (ho:okK c) (hr:zaF c=true):sCmd (enc c ++ more) 0=(more,0,c):=by
 obtain ⟨r1,_⟩:=zd4 c ho hr
 have hb:zbc (enc c ++ more) 0=(body c ++ more,0,c.kind.toNat):=rfl
 have hk:ziE (enc c ++ more) 0=(body c ++ more,0):=by
  unfold ziE
  rw [hb]
  simp only
  rw [if_neg (by omega)]
 have hp:zg9 (enc c ++ more) 0=(more,0,c):=by
  unfold zg9
  rw [hb,hk]
  simp only
  rw [Int.toNat_of_nonneg r1.1]
  exact znL c more ho hr
 unfold sCmd
 rw [hp]
 unfold zj2
 simp [hr]
theorem zpj (c:K) (ho:okK c) (hr:zaF c=true):∀x∈enc c,x<256:=by
 obtain ⟨r1,r2,r3,r4,r5⟩:=zd4 c ho hr
 intro x hx
 unfold enc e0 e1 e2 e3 e4 e5 at hx
 simp only [List.mem_cons,List.mem_append] at hx
 rcases hx with rfl | hx | hx | hx | hx | hx | hx
 ·omega
 ·split at hx
  ·rcases List.mem_append.1 hx with h | h
   ·exact zkV 8 _ x h
   ·exact zh1 _ x h
  ·cases hx
 ·split at hx
  ·exact zbo _ x hx
  ·cases hx
 ·split at hx
  ·exact zh1 _ x hx
  ·cases hx
 ·split at hx
  ·rw [List.mem_singleton.1 hx];omega
  ·cases hx
 ·split at hx
  ·exact zbo _ x hx
  ·cases hx
 ·split at hx
  ·exact zbo _ x hx
  ·cases hx
end Go.Proofs.YtnjdckoljmgcjaaGreatDoor
