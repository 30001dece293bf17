/-
  The contracts of package index's New, Count and Note.
-/
import Derived.Test.YtnjdckoljmgcjaaGreatDoorW13
import Derived.Test.YtnjdckoljmgcjaaGreatDoorW09
import Derived.Test.YtnjdckoljmgcjaaGreatDoorW10
set_option maxRecDepth 100000
set_option maxHeartbeats 4000000
namespace Go.Proofs.YtnjdckoljmgcjaaGreatDoor
open Go.ChangeShapes Go.WideShapes Go.ChangeAt Go.RowKit Go.Lib
set_option linter.unusedVariables false
theorem zd4 (c:K) (ho:okK c) (hr:zaF c=true):(0≤c.kind∧c.kind≤8)∧(0≤c.mode∧c.mode≤2)∧(0≤c.time∧c.time≤1099511627776)∧c.foot.size≤64∧c.path.size≤64:=by
 unfold zaF at hr
 simp only [Bool.and_eq_true,decide_eq_true_eq] at hr
 obtain ⟨⟨hk,he⟩,hi⟩:=hr
 unfold isK at hk
 rw [decide_eq_true_eq] at hk
 have hl:=(zs9 c).1 he
 unfold zaA at hi
 simp only [Bool.and_eq_true] at hi
 obtain ⟨⟨⟨⟨⟨i0,i1⟩,i2⟩,i3⟩,i4⟩,i5⟩:=hi
 unfold zaG at hl
 simp only [Bool.or_eq_false_iff,Bool.and_eq_false_iff,Bool.not_eq_false',decide_eq_false_iff_not,Decidable.not_not,zuy,ne_eq] at hl
 obtain ⟨⟨⟨⟨⟨l0,l1⟩,l2⟩,l3⟩,l4⟩,l5⟩:=hl
 have size64:∀s:ByteArray,right (L s)=true→s.size≤64:=fun s h=>by
  have:=(zgB.1 h).1
  rwa [zbA] at this
 refine ⟨by omega,?_,?_,?_,?_⟩
 ·unfold in3 at i3
  simp only [Bool.or_eq_true,Bool.not_eq_true',decide_eq_true_eq] at i3
  rcases l3 with h | h
  ·rcases i3 with g | g
   ·rw [h] at g;cases g
   ·omega
  ·omega
 ·unfold in5 at i5
  simp only [Bool.or_eq_true,Bool.not_eq_true',decide_eq_true_eq] at i5
  rcases l5 with h | h
  ·rcases i5 with g | g
   ·rw [h] at g;cases g
   ·exact g
  ·omega
 ·unfold in0 at i0
  simp only [Bool.or_eq_true,Bool.not_eq_true'] at i0
  rcases l0 with h | h
  ·rcases i0 with g | g
   ·rw [h] at g;cases g
   ·exact size64 _ g
  ·rw [h.2];decide
 ·unfold in2 at i2
  simp only [Bool.or_eq_true,Bool.not_eq_true'] at i2
  rcases l2 with h | h
  ·rcases i2 with g | g
   ·rw [h] at g;cases g
   ·exact size64 _ g
  ·rw [h];decide
theorem zoo (base g:Nat) (lb:List Nat) (c:K) (w:World) (hP:zad w) (hg:0<base) (hO:zaB w base g lb) (hlb:lb.length≤1000000) (ho:okK c) (hr:zaF c=true) :
  Calls Tryz.prog 237 #[val c,.pointer (some ⟨g,0,none⟩)] w fun e w'=>e=.returned (.tuple #[])∧zaB w' base g (lb ++ enc c)∧Below base w w'∧za0 g w w':=by
 obtain ⟨r1,r2,r3,r4,r5⟩:=zd4 c ho hr
 obtain ⟨o1,o2,o3,_⟩:=ho
 obtain ⟨k,u,f,q,s,m,n,t⟩:=c
 rcases zei k with ⟨h,_⟩ | ⟨_,h⟩ | ⟨_,h⟩ | ⟨_,h⟩ | ⟨_,h⟩ | ⟨_,h⟩ | ⟨_,h⟩ | ⟨_,h⟩
 ·exact zvi base g lb k u f q s m n t w hP hg hO hlb h hr r1 o1 o2 o3 r2 r3 r4 r5
 ·exact zvx base g lb k u f q s m n t w hP hg hO hlb h hr r1 o1 o2 o3 r2 r3 r4 r5
 ·exact zu3 base g lb k u f q s m n t w hP hg hO hlb h hr r1 o1 o2 o3 r2 r3 r4 r5
 ·exact zvz base g lb k u f q s m n t w hP hg hO hlb h hr r1 o1 o2 o3 r2 r3 r4 r5
 ·exact zu0 base g lb k u f q s m n t w hP hg hO hlb h hr r1 o1 o2 o3 r2 r3 r4 r5
 ·exact zva base g lb k u f q s m n t w hP hg hO hlb h hr r1 o1 o2 o3 r2 r3 r4 r5
 ·exact zvh base g lb k u f q s m n t w hP hg hO hlb h hr r1 o1 o2 o3 r2 r3 r4 r5
 ·exact zvv base g lb k u f q s m n t w hP hg hO hlb h hr r1 o1 o2 o3 r2 r3 r4 r5
theorem zpT (c:K) (ho:okK c) (hr:zaF c=true):(enc c).length≤300:=by
 obtain ⟨r1,r2,r3,r4,r5⟩:=zd4 c ho hr
 obtain ⟨o1,o2,o3,_⟩:=ho
 have t0:∀s:ByteArray,s.size≤64→(zdJ s).length≤74:=fun s h=>by
  unfold zdJ
  have h1:=zah (show s.size<18446744073709551616 by omega)
  rw [List.length_append,zaR];omega
 have a0:(e0 c).length≤82:=by
  unfold e0;split
  ·have:=t0 _ r4;rw [List.length_append,zbt];omega
  ·simp
 have a1:(e1 c).length≤10:=by unfold e1;split;exact zah (by omega);simp
 have a2:(e2 c).length≤74:=by unfold e2;split;exact t0 _ r5;simp
 have a3:(e3 c).length≤1:=by unfold e3;split <;> simp
 have a4:(e4 c).length≤10:=by unfold e4;split;exact zah (by omega);simp
 have a5:(e5 c).length≤10:=by unfold e5;split;exact zah (by omega);simp
 unfold enc
 simp only [List.length_cons,List.length_append]
 omega
end Go.Proofs.YtnjdckoljmgcjaaGreatDoor
namespace Go.Proofs.YtnjdckoljmgcjaaGreatDoor
open Go.ChangeShapes Go.WideShapes Go.ChangeAt Go.RowKit Go.Lib
set_option linter.unusedSimpArgs false
set_option linter.unusedVariables false
theorem zq1 (k u:Int) (f:ByteArray) (q:Int) (s:ByteArray) (m n t:Int) (w:World) (hk:k<0∨8<k) :
  Calls Tryz.prog 94 #[val ⟨k,u,f,q,s,m,n,t⟩] w fun e w'=>e=.returned (.bool (docK ⟨k,u,f,q,s,m,n,t⟩))∧Below w.heap.size w w':=by
 have HE:Hid (docK ⟨k,u,f,q,s,m,n,t⟩=false):=hid (by
  have h:isK k=false:=by unfold isK;exact decide_eq_false (by omega)
  simp [docK,h])
 rcases Decidable.em (k<0) with h | h
 ·go_enter Tryz.func94,Tryz.ntmps94
  go_wp2
  go_ret
  exact ⟨zab HE.out.symm,(Below.refl _ _).alloc (Nat.le_refl _) _⟩
 ·have h8:8<k:=by omega
  go_enter Tryz.func94,Tryz.ntmps94
  go_wp2
  go_ret
  exact ⟨zab HE.out.symm,(Below.refl _ _).alloc (Nat.le_refl _) _⟩
theorem zbY (c:K) (w:World) (ho:okK c) (hf:c.foot.size≤900) (hp:c.path.size≤900) :
  Calls Tryz.prog 94 #[val c] w fun e w'=>e=.returned (.bool (zaF c))∧Below w.heap.size w w':=by
 rw [←zo9 c ho]
 obtain ⟨_,⟨o1,_⟩,⟨o2,_⟩,_⟩:=ho
 obtain ⟨k,u,f,q,s,m,n,t⟩:=c
 simp only at o1 o2 hf hp
 have:k<0∨8<k∨k=0∨k=1∨k=2∨k=3∨k=4∨k=5∨k=6∨k=7∨k=8:=by omega
 rcases this with h | h | rfl | rfl | rfl | rfl | rfl | rfl | rfl | rfl | rfl
 ·exact zq1 k u f q s m n t w (.inl h)
 ·exact zq1 k u f q s m n t w (.inr h)
 ·exact zvq u f q s m n t w hf hp o1 o2
 ·exact zvd u f q s m n t w hf hp o1 o2
 ·exact zvu u f q s m n t w hf hp o1 o2
 ·exact zu1 u f q s m n t w hf hp o1 o2
 ·exact zvo u f q s m n t w hf hp o1 o2
 ·exact zu5 u f q s m n t w hf hp o1 o2
 ·exact zvy u f q s m n t w hf hp o1 o2
 ·exact zvg u f q s m n t w hf hp o1 o2
 ·exact zvj u f q s m n t w hf hp o1 o2
theorem znQ {c:K} (h:zaF c=true):0≤c.kind∧c.kind≤8:=by
 unfold zaF at h
 simp only [Bool.and_eq_true] at h
 have:=h.1.1
 unfold isK at this
 rw [decide_eq_true_eq] at this
 omega
theorem zuL (u:Int) (f:ByteArray) (q:Int) (s:ByteArray) (m n t:Int) (w:World) (ho:okK ⟨0,u,f,q,s,m,n,t⟩) (hr:zaF ⟨0,u,f,q,s,m,n,t⟩=true) (hf:f.size≤900) (hp:s.size≤900) :
  Calls Tryz.prog 107 #[val ⟨0,u,f,q,s,m,n,t⟩] w fun e w'=>e=.returned (.tuple #[.string (za9 ⟨0,u,f,q,s,m,n,t⟩).1,.bool (za9 ⟨0,u,f,q,s,m,n,t⟩).2])∧Below w.heap.size w w':=by
 rw [show za9 ⟨0,u,f,q,s,m,n,t⟩=(⟨#[]⟩,false) by unfold za9;rw [hr];rfl]
 have HR:=hid hr
 have HO:=hid ho
 have A0:Hid (zac w (w.alloc (.cells (cellsOf ⟨0,u,f,q,s,m,n,t⟩) 80)) w.heap.size ⟨0,u,f,q,s,m,n,t⟩):=hid (zac.start w _)
 clear hr ho
 go_enter Tryz.func107,Tryz.ntmps107
 go_wp2_with fail
 with_reducible refine (zbY ⟨0,u,f,q,s,m,n,t⟩ _ HO.out hf hp).mono ?_
 rw [HR.out]
 rintro e w1 ⟨rfl,hb⟩
 have A1:=hid (A0.out.on hb)
 clear hb A0
 obtain ⟨⟨c0,c1,c2,c3,c4,c5,c6,c7⟩,f0,f1,f2,f3,f4,f5,f6,f7⟩:=zaa A1.out.1
 go_wp2
 go_ret2
 exact ⟨rfl,A1.out.below⟩
theorem zt7 (u:Int) (f:ByteArray) (q:Int) (s:ByteArray) (m n t:Int) (w:World) (ho:okK ⟨1,u,f,q,s,m,n,t⟩) (hr:zaF ⟨1,u,f,q,s,m,n,t⟩=true) (hf:f.size≤900) (hp:s.size≤900) :
  Calls Tryz.prog 107 #[val ⟨1,u,f,q,s,m,n,t⟩] w fun e w'=>e=.returned (.tuple #[.string (za9 ⟨1,u,f,q,s,m,n,t⟩).1,.bool (za9 ⟨1,u,f,q,s,m,n,t⟩).2])∧Below w.heap.size w w':=by
 rw [show za9 ⟨1,u,f,q,s,m,n,t⟩=(f,true) by unfold za9;rw [hr];rfl]
 have HR:=hid hr
 have HO:=hid ho
 have A0:Hid (zac w (w.alloc (.cells (cellsOf ⟨1,u,f,q,s,m,n,t⟩) 80)) w.heap.size ⟨1,u,f,q,s,m,n,t⟩):=hid (zac.start w _)
 clear hr ho
 go_enter Tryz.func107,Tryz.ntmps107
 go_wp2_with fail
 with_reducible refine (zbY ⟨1,u,f,q,s,m,n,t⟩ _ HO.out hf hp).mono ?_
 rw [HR.out]
 rintro e w1 ⟨rfl,hb⟩
 have A1:=hid (A0.out.on hb)
 clear hb A0
 obtain ⟨⟨c0,c1,c2,c3,c4,c5,c6,c7⟩,f0,f1,f2,f3,f4,f5,f6,f7⟩:=zaa A1.out.1
 have IX:=zpa
 have JX:∀W,(Instr.index 203 (.agg #[.bool true,.bool true,.bool false,.bool false,.bool true,.bool true]) (.int .i64 2)).run Tryz.prog W=.ok (.bool false) W:=fun W=>by kernel_rfl
 go_wp2_with fail
 go_region_held3 (fun w'=>w'.cell? ⟨w.heap.size,0,none⟩=some (.int .i64 1))
  (first | with_reducible exact zac.kind A1.out | with_reducible exact zac.kind (zac.drew A1.out) | with_reducible exact zac.kind A2.out)
  (first
   | (go_at_call 132;(with_reducible refine (zbb _).mono ?_);rintro e w2 ⟨rfl,hb2⟩;have A2:=hid (zac.on (zac.drew A1.out) hb2)))
 rename_i hHeld
 clear hHeld A1 hb2 c0 c1 c2 c3 c4 c5 c6 c7 f0 f1 f2 f3 f4 f5 f6 f7
 obtain ⟨⟨c0,c1,c2,c3,c4,c5,c6,c7⟩,f0,f1,f2,f3,f4,f5,f6,f7⟩:=zaa A2.out.1
 go_wp2
 go_ret2
 exact ⟨rfl,A2.out.below⟩
theorem zuq (u:Int) (f:ByteArray) (q:Int) (s:ByteArray) (m n t:Int) (w:World) (ho:okK ⟨2,u,f,q,s,m,n,t⟩) (hr:zaF ⟨2,u,f,q,s,m,n,t⟩=true) (hf:f.size≤900) (hp:s.size≤900) :
  Calls Tryz.prog 107 #[val ⟨2,u,f,q,s,m,n,t⟩] w fun e w'=>e=.returned (.tuple #[.string (za9 ⟨2,u,f,q,s,m,n,t⟩).1,.bool (za9 ⟨2,u,f,q,s,m,n,t⟩).2])∧Below w.heap.size w w':=by
 rw [show za9 ⟨2,u,f,q,s,m,n,t⟩=(f,true) by unfold za9;rw [hr];rfl]
 have HR:=hid hr
 have HO:=hid ho
 have A0:Hid (zac w (w.alloc (.cells (cellsOf ⟨2,u,f,q,s,m,n,t⟩) 80)) w.heap.size ⟨2,u,f,q,s,m,n,t⟩):=hid (zac.start w _)
 clear hr ho
 go_enter Tryz.func107,Tryz.ntmps107
 go_wp2_with fail
 with_reducible refine (zbY ⟨2,u,f,q,s,m,n,t⟩ _ HO.out hf hp).mono ?_
 rw [HR.out]
 rintro e w1 ⟨rfl,hb⟩
 have A1:=hid (A0.out.on hb)
 clear hb A0
 obtain ⟨⟨c0,c1,c2,c3,c4,c5,c6,c7⟩,f0,f1,f2,f3,f4,f5,f6,f7⟩:=zaa A1.out.1
 have IX:=zoL
 have JX:∀W,(Instr.index 203 (.agg #[.bool true,.bool true,.bool false,.bool false,.bool false,.bool false]) (.int .i64 2)).run Tryz.prog W=.ok (.bool false) W:=fun W=>by kernel_rfl
 go_wp2_with fail
 go_region_held3 (fun w'=>w'.cell? ⟨w.heap.size,0,none⟩=some (.int .i64 2))
  (first | with_reducible exact zac.kind A1.out | with_reducible exact zac.kind (zac.drew A1.out) | with_reducible exact zac.kind A2.out)
  (first
   | (go_at_call 132;(with_reducible refine (zbb _).mono ?_);rintro e w2 ⟨rfl,hb2⟩;have A2:=hid (zac.on (zac.drew A1.out) hb2)))
 rename_i hHeld
 clear hHeld A1 hb2 c0 c1 c2 c3 c4 c5 c6 c7 f0 f1 f2 f3 f4 f5 f6 f7
 obtain ⟨⟨c0,c1,c2,c3,c4,c5,c6,c7⟩,f0,f1,f2,f3,f4,f5,f6,f7⟩:=zaa A2.out.1
 go_wp2
 go_ret2
 exact ⟨rfl,A2.out.below⟩
theorem zuw (u:Int) (f:ByteArray) (q:Int) (s:ByteArray) (m n t:Int) (w:World) (ho:okK ⟨3,u,f,q,s,m,n,t⟩) (hr:zaF ⟨3,u,f,q,s,m,n,t⟩=true) (hf:f.size≤900) (hp:s.size≤900) :
  Calls Tryz.prog 107 #[val ⟨3,u,f,q,s,m,n,t⟩] w fun e w'=>e=.returned (.tuple #[.string (za9 ⟨3,u,f,q,s,m,n,t⟩).1,.bool (za9 ⟨3,u,f,q,s,m,n,t⟩).2])∧Below w.heap.size w w':=by
 rw [show za9 ⟨3,u,f,q,s,m,n,t⟩=(f,true) by unfold za9;rw [hr];rfl]
 have HR:=hid hr
 have HO:=hid ho
 have A0:Hid (zac w (w.alloc (.cells (cellsOf ⟨3,u,f,q,s,m,n,t⟩) 80)) w.heap.size ⟨3,u,f,q,s,m,n,t⟩):=hid (zac.start w _)
 clear hr ho
 go_enter Tryz.func107,Tryz.ntmps107
 go_wp2_with fail
 with_reducible refine (zbY ⟨3,u,f,q,s,m,n,t⟩ _ HO.out hf hp).mono ?_
 rw [HR.out]
 rintro e w1 ⟨rfl,hb⟩
 have A1:=hid (A0.out.on hb)
 clear hb A0
 obtain ⟨⟨c0,c1,c2,c3,c4,c5,c6,c7⟩,f0,f1,f2,f3,f4,f5,f6,f7⟩:=zaa A1.out.1
 have IX:=zoD
 have JX:∀W,(Instr.index 203 (.agg #[.bool true,.bool true,.bool false,.bool false,.bool false,.bool true]) (.int .i64 2)).run Tryz.prog W=.ok (.bool false) W:=fun W=>by kernel_rfl
 go_wp2_with fail
 go_region_held3 (fun w'=>w'.cell? ⟨w.heap.size,0,none⟩=some (.int .i64 3))
  (first | with_reducible exact zac.kind A1.out | with_reducible exact zac.kind (zac.drew A1.out) | with_reducible exact zac.kind A2.out)
  (first
   | (go_at_call 132;(with_reducible refine (zbb _).mono ?_);rintro e w2 ⟨rfl,hb2⟩;have A2:=hid (zac.on (zac.drew A1.out) hb2)))
 rename_i hHeld
 clear hHeld A1 hb2 c0 c1 c2 c3 c4 c5 c6 c7 f0 f1 f2 f3 f4 f5 f6 f7
 obtain ⟨⟨c0,c1,c2,c3,c4,c5,c6,c7⟩,f0,f1,f2,f3,f4,f5,f6,f7⟩:=zaa A2.out.1
 go_wp2
 go_ret2
 exact ⟨rfl,A2.out.below⟩
theorem zt9 (u:Int) (f:ByteArray) (q:Int) (s:ByteArray) (m n t:Int) (w:World) (ho:okK ⟨4,u,f,q,s,m,n,t⟩) (hr:zaF ⟨4,u,f,q,s,m,n,t⟩=true) (hf:f.size≤900) (hp:s.size≤900) :
  Calls Tryz.prog 107 #[val ⟨4,u,f,q,s,m,n,t⟩] w fun e w'=>e=.returned (.tuple #[.string (za9 ⟨4,u,f,q,s,m,n,t⟩).1,.bool (za9 ⟨4,u,f,q,s,m,n,t⟩).2])∧Below w.heap.size w w':=by
 rw [show za9 ⟨4,u,f,q,s,m,n,t⟩=(s,true) by unfold za9;rw [hr];rfl]
 have HR:=hid hr
 have HO:=hid ho
 have A0:Hid (zac w (w.alloc (.cells (cellsOf ⟨4,u,f,q,s,m,n,t⟩) 80)) w.heap.size ⟨4,u,f,q,s,m,n,t⟩):=hid (zac.start w _)
 clear hr ho
 go_enter Tryz.func107,Tryz.ntmps107
 go_wp2_with fail
 with_reducible refine (zbY ⟨4,u,f,q,s,m,n,t⟩ _ HO.out hf hp).mono ?_
 rw [HR.out]
 rintro e w1 ⟨rfl,hb⟩
 have A1:=hid (A0.out.on hb)
 clear hb A0
 obtain ⟨⟨c0,c1,c2,c3,c4,c5,c6,c7⟩,f0,f1,f2,f3,f4,f5,f6,f7⟩:=zaa A1.out.1
 have IX:=zpE
 have JX:∀W,(Instr.index 203 (.agg #[.bool true,.bool true,.bool true,.bool true,.bool false,.bool false]) (.int .i64 2)).run Tryz.prog W=.ok (.bool true) W:=fun W=>by kernel_rfl
 go_wp2_with fail
 go_region_held3 (fun w'=>w'.cell? ⟨w.heap.size,0,none⟩=some (.int .i64 4))
  (first | with_reducible exact zac.kind A1.out | with_reducible exact zac.kind (zac.drew A1.out) | with_reducible exact zac.kind A2.out)
  (first
   | (go_at_call 132;(with_reducible refine (zbb _).mono ?_);rintro e w2 ⟨rfl,hb2⟩;have A2:=hid (zac.on (zac.drew A1.out) hb2)))
 rename_i hHeld
 clear hHeld A1 hb2 c0 c1 c2 c3 c4 c5 c6 c7 f0 f1 f2 f3 f4 f5 f6 f7
 obtain ⟨⟨c0,c1,c2,c3,c4,c5,c6,c7⟩,f0,f1,f2,f3,f4,f5,f6,f7⟩:=zaa A2.out.1
 go_wp2
 go_ret2
 exact ⟨rfl,A2.out.below⟩
theorem zuT (u:Int) (f:ByteArray) (q:Int) (s:ByteArray) (m n t:Int) (w:World) (ho:okK ⟨5,u,f,q,s,m,n,t⟩) (hr:zaF ⟨5,u,f,q,s,m,n,t⟩=true) (hf:f.size≤900) (hp:s.size≤900) :
  Calls Tryz.prog 107 #[val ⟨5,u,f,q,s,m,n,t⟩] w fun e w'=>e=.returned (.tuple #[.string (za9 ⟨5,u,f,q,s,m,n,t⟩).1,.bool (za9 ⟨5,u,f,q,s,m,n,t⟩).2])∧Below w.heap.size w w':=by
 rw [show za9 ⟨5,u,f,q,s,m,n,t⟩=(s,true) by unfold za9;rw [hr];rfl]
 have HR:=hid hr
 have HO:=hid ho
 have A0:Hid (zac w (w.alloc (.cells (cellsOf ⟨5,u,f,q,s,m,n,t⟩) 80)) w.heap.size ⟨5,u,f,q,s,m,n,t⟩):=hid (zac.start w _)
 clear hr ho
 go_enter Tryz.func107,Tryz.ntmps107
 go_wp2_with fail
 with_reducible refine (zbY ⟨5,u,f,q,s,m,n,t⟩ _ HO.out hf hp).mono ?_
 rw [HR.out]
 rintro e w1 ⟨rfl,hb⟩
 have A1:=hid (A0.out.on hb)
 clear hb A0
 obtain ⟨⟨c0,c1,c2,c3,c4,c5,c6,c7⟩,f0,f1,f2,f3,f4,f5,f6,f7⟩:=zaa A1.out.1
 have IX:=zp6
 have JX:∀W,(Instr.index 203 (.agg #[.bool true,.bool true,.bool true,.bool true,.bool false,.bool false]) (.int .i64 2)).run Tryz.prog W=.ok (.bool true) W:=fun W=>by kernel_rfl
 go_wp2_with fail
 go_region_held3 (fun w'=>w'.cell? ⟨w.heap.size,0,none⟩=some (.int .i64 5))
  (first | with_reducible exact zac.kind A1.out | with_reducible exact zac.kind (zac.drew A1.out) | with_reducible exact zac.kind A2.out)
  (first
   | (go_at_call 132;(with_reducible refine (zbb _).mono ?_);rintro e w2 ⟨rfl,hb2⟩;have A2:=hid (zac.on (zac.drew A1.out) hb2)))
 rename_i hHeld
 clear hHeld A1 hb2 c0 c1 c2 c3 c4 c5 c6 c7 f0 f1 f2 f3 f4 f5 f6 f7
 obtain ⟨⟨c0,c1,c2,c3,c4,c5,c6,c7⟩,f0,f1,f2,f3,f4,f5,f6,f7⟩:=zaa A2.out.1
 go_wp2
 go_ret2
 exact ⟨rfl,A2.out.below⟩
theorem zuF (u:Int) (f:ByteArray) (q:Int) (s:ByteArray) (m n t:Int) (w:World) (ho:okK ⟨6,u,f,q,s,m,n,t⟩) (hr:zaF ⟨6,u,f,q,s,m,n,t⟩=true) (hf:f.size≤900) (hp:s.size≤900) :
  Calls Tryz.prog 107 #[val ⟨6,u,f,q,s,m,n,t⟩] w fun e w'=>e=.returned (.tuple #[.string (za9 ⟨6,u,f,q,s,m,n,t⟩).1,.bool (za9 ⟨6,u,f,q,s,m,n,t⟩).2])∧Below w.heap.size w w':=by
 rw [show za9 ⟨6,u,f,q,s,m,n,t⟩=(s,true) by unfold za9;rw [hr];rfl]
 have HR:=hid hr
 have HO:=hid ho
 have A0:Hid (zac w (w.alloc (.cells (cellsOf ⟨6,u,f,q,s,m,n,t⟩) 80)) w.heap.size ⟨6,u,f,q,s,m,n,t⟩):=hid (zac.start w _)
 clear hr ho
 go_enter Tryz.func107,Tryz.ntmps107
 go_wp2_with fail
 with_reducible refine (zbY ⟨6,u,f,q,s,m,n,t⟩ _ HO.out hf hp).mono ?_
 rw [HR.out]
 rintro e w1 ⟨rfl,hb⟩
 have A1:=hid (A0.out.on hb)
 clear hb A0
 obtain ⟨⟨c0,c1,c2,c3,c4,c5,c6,c7⟩,f0,f1,f2,f3,f4,f5,f6,f7⟩:=zaa A1.out.1
 have IX:=zpS
 have JX:∀W,(Instr.index 203 (.agg #[.bool true,.bool true,.bool true,.bool false,.bool false,.bool false]) (.int .i64 2)).run Tryz.prog W=.ok (.bool true) W:=fun W=>by kernel_rfl
 go_wp2_with fail
 go_region_held3 (fun w'=>w'.cell? ⟨w.heap.size,0,none⟩=some (.int .i64 6))
  (first | with_reducible exact zac.kind A1.out | with_reducible exact zac.kind (zac.drew A1.out) | with_reducible exact zac.kind A2.out)
  (first
   | (go_at_call 132;(with_reducible refine (zbb _).mono ?_);rintro e w2 ⟨rfl,hb2⟩;have A2:=hid (zac.on (zac.drew A1.out) hb2)))
 rename_i hHeld
 clear hHeld A1 hb2 c0 c1 c2 c3 c4 c5 c6 c7 f0 f1 f2 f3 f4 f5 f6 f7
 obtain ⟨⟨c0,c1,c2,c3,c4,c5,c6,c7⟩,f0,f1,f2,f3,f4,f5,f6,f7⟩:=zaa A2.out.1
 go_wp2
 go_ret2
 exact ⟨rfl,A2.out.below⟩
theorem zug (u:Int) (f:ByteArray) (q:Int) (s:ByteArray) (m n t:Int) (w:World) (ho:okK ⟨7,u,f,q,s,m,n,t⟩) (hr:zaF ⟨7,u,f,q,s,m,n,t⟩=true) (hf:f.size≤900) (hp:s.size≤900) :
  Calls Tryz.prog 107 #[val ⟨7,u,f,q,s,m,n,t⟩] w fun e w'=>e=.returned (.tuple #[.string (za9 ⟨7,u,f,q,s,m,n,t⟩).1,.bool (za9 ⟨7,u,f,q,s,m,n,t⟩).2])∧Below w.heap.size w w':=by
 rw [show za9 ⟨7,u,f,q,s,m,n,t⟩=(s,true) by unfold za9;rw [hr];rfl]
 have HR:=hid hr
 have HO:=hid ho
 have A0:Hid (zac w (w.alloc (.cells (cellsOf ⟨7,u,f,q,s,m,n,t⟩) 80)) w.heap.size ⟨7,u,f,q,s,m,n,t⟩):=hid (zac.start w _)
 clear hr ho
 go_enter Tryz.func107,Tryz.ntmps107
 go_wp2_with fail
 with_reducible refine (zbY ⟨7,u,f,q,s,m,n,t⟩ _ HO.out hf hp).mono ?_
 rw [HR.out]
 rintro e w1 ⟨rfl,hb⟩
 have A1:=hid (A0.out.on hb)
 clear hb A0
 obtain ⟨⟨c0,c1,c2,c3,c4,c5,c6,c7⟩,f0,f1,f2,f3,f4,f5,f6,f7⟩:=zaa A1.out.1
 have IX:=zo1
 have JX:∀W,(Instr.index 203 (.agg #[.bool true,.bool true,.bool true,.bool false,.bool true,.bool false]) (.int .i64 2)).run Tryz.prog W=.ok (.bool true) W:=fun W=>by kernel_rfl
 go_wp2_with fail
 go_region_held3 (fun w'=>w'.cell? ⟨w.heap.size,0,none⟩=some (.int .i64 7))
  (first | with_reducible exact zac.kind A1.out | with_reducible exact zac.kind (zac.drew A1.out) | with_reducible exact zac.kind A2.out)
  (first
   | (go_at_call 132;(with_reducible refine (zbb _).mono ?_);rintro e w2 ⟨rfl,hb2⟩;have A2:=hid (zac.on (zac.drew A1.out) hb2)))
 rename_i hHeld
 clear hHeld A1 hb2 c0 c1 c2 c3 c4 c5 c6 c7 f0 f1 f2 f3 f4 f5 f6 f7
 obtain ⟨⟨c0,c1,c2,c3,c4,c5,c6,c7⟩,f0,f1,f2,f3,f4,f5,f6,f7⟩:=zaa A2.out.1
 go_wp2
 go_ret2
 exact ⟨rfl,A2.out.below⟩
theorem zuE (u:Int) (f:ByteArray) (q:Int) (s:ByteArray) (m n t:Int) (w:World) (ho:okK ⟨8,u,f,q,s,m,n,t⟩) (hr:zaF ⟨8,u,f,q,s,m,n,t⟩=true) (hf:f.size≤900) (hp:s.size≤900) :
  Calls Tryz.prog 107 #[val ⟨8,u,f,q,s,m,n,t⟩] w fun e w'=>e=.returned (.tuple #[.string (za9 ⟨8,u,f,q,s,m,n,t⟩).1,.bool (za9 ⟨8,u,f,q,s,m,n,t⟩).2])∧Below w.heap.size w w':=by
 rw [show za9 ⟨8,u,f,q,s,m,n,t⟩=(f,true) by unfold za9;rw [hr];rfl]
 have HR:=hid hr
 have HO:=hid ho
 have A0:Hid (zac w (w.alloc (.cells (cellsOf ⟨8,u,f,q,s,m,n,t⟩) 80)) w.heap.size ⟨8,u,f,q,s,m,n,t⟩):=hid (zac.start w _)
 clear hr ho
 go_enter Tryz.func107,Tryz.ntmps107
 go_wp2_with fail
 with_reducible refine (zbY ⟨8,u,f,q,s,m,n,t⟩ _ HO.out hf hp).mono ?_
 rw [HR.out]
 rintro e w1 ⟨rfl,hb⟩
 have A1:=hid (A0.out.on hb)
 clear hb A0
 obtain ⟨⟨c0,c1,c2,c3,c4,c5,c6,c7⟩,f0,f1,f2,f3,f4,f5,f6,f7⟩:=zaa A1.out.1
 have IX:=zoS
 have JX:∀W,(Instr.index 203 (.agg #[.bool true,.bool false,.bool false,.bool false,.bool false,.bool true]) (.int .i64 2)).run Tryz.prog W=.ok (.bool false) W:=fun W=>by kernel_rfl
 go_wp2_with fail
 go_region_held3 (fun w'=>w'.cell? ⟨w.heap.size,0,none⟩=some (.int .i64 8))
  (first | with_reducible exact zac.kind A1.out | with_reducible exact zac.kind (zac.drew A1.out) | with_reducible exact zac.kind A2.out)
  (first
   | (go_at_call 132;(with_reducible refine (zbb _).mono ?_);rintro e w2 ⟨rfl,hb2⟩;have A2:=hid (zac.on (zac.drew A1.out) hb2)))
 rename_i hHeld
 clear hHeld A1 hb2 c0 c1 c2 c3 c4 c5 c6 c7 f0 f1 f2 f3 f4 f5 f6 f7
 obtain ⟨⟨c0,c1,c2,c3,c4,c5,c6,c7⟩,f0,f1,f2,f3,f4,f5,f6,f7⟩:=zaa A2.out.1
 go_wp2
 go_ret2
 exact ⟨rfl,A2.out.below⟩
theorem zn9 (c:K) (w:World) (ho:okK c) (hf:c.foot.size≤900) (hp:c.path.size≤900) :
  Calls Tryz.prog 107 #[val c] w fun e w'=>e=.returned (.tuple #[.string (za9 c).1,.bool (za9 c).2])∧Below w.heap.size w w':=by
 obtain ⟨k,u,f,q,s,m,n,t⟩:=c
 cases hr:zaF ⟨k,u,f,q,s,m,n,t⟩
 ·rw [show za9 ⟨k,u,f,q,s,m,n,t⟩=(⟨#[]⟩,false) by unfold za9;rw [hr];rfl]
  have HR:=hid hr
  have HO:=hid ho
  have A0:Hid (zac w (w.alloc (.cells (cellsOf ⟨k,u,f,q,s,m,n,t⟩) 80)) w.heap.size ⟨k,u,f,q,s,m,n,t⟩):=hid (zac.start w _)
  clear hr ho
  go_enter Tryz.func107,Tryz.ntmps107
  go_wp2_with fail
  with_reducible refine (zbY ⟨k,u,f,q,s,m,n,t⟩ _ HO.out hf hp).mono ?_
  rw [HR.out]
  rintro e w1 ⟨rfl,hb⟩
  have A1:=hid (A0.out.on hb)
  clear hb A0
  go_wp2
  go_ret2
  exact ⟨rfl,A1.out.below⟩
 ·have hk:=znQ hr
  simp only at hk
  have:k=0∨k=1∨k=2∨k=3∨k=4∨k=5∨k=6∨k=7∨k=8:=by omega
  rcases this with rfl | rfl | rfl | rfl | rfl | rfl | rfl | rfl | rfl
  ·exact zuL u f q s m n t w ho hr hf hp
  ·exact zt7 u f q s m n t w ho hr hf hp
  ·exact zuq u f q s m n t w ho hr hf hp
  ·exact zuw u f q s m n t w ho hr hf hp
  ·exact zt9 u f q s m n t w ho hr hf hp
  ·exact zuT u f q s m n t w ho hr hf hp
  ·exact zuF u f q s m n t w ho hr hf hp
  ·exact zug u f q s m n t w ho hr hf hp
  ·exact zuE u f q s m n t w ho hr hf hp
end Go.Proofs.YtnjdckoljmgcjaaGreatDoor
namespace Go.Proofs.YtnjdckoljmgcjaaGreatDoor
open Go.ChangeShapes Go.WideShapes Go.ChangeAt Go.RowKit Go.Maps Go.WideMaps
set_option linter.unusedVariables false
set_option linter.unusedSimpArgs false
def Ix (w:World) (x m:Nat) (l:List Nt):Prop:=Blk w x 178 #[.map (some m)]∧zdP w m l.length l∧zcA l∧0<m
theorem Ix.lt {w:World} {x m:Nat} {l:List Nt} (h:Ix w x m l):x<w.heap.size∧m<w.heap.size:=⟨h.1.lt,h.2.1.lt⟩
theorem Ix.ne {w:World} {x m:Nat} {l:List Nt} (h:Ix w x m l):x≠m:=by
 rintro rfl
 obtain ⟨h1,⟨D,⟨es,clock,hb,_⟩,_⟩,_⟩:=h
 unfold Blk at h1
 rw [h1] at hb
 cases hb
theorem Ix.on {w w':World} {x m:Nat} {l:List Nt} (h:Ix w x m l) (hb:Below w.heap.size w w'):Ix w' x m l :=
 ⟨h.1.below hb h.1.lt,h.2.1.same (hb.block m h.2.1.lt),h.2.2⟩
theorem Ix.on2 {w w':World} {B x m:Nat} {l:List Nt} (h:Ix w x m l) (hb:Below B w w') (hx:x<B) (hm:m<B):Ix w' x m l :=
 ⟨h.1.below hb hx,h.2.1.same (hb.block m hm),h.2.2⟩
theorem Ix.alloc {w:World} {x m:Nat} {l:List Nt} (h:Ix w x m l) (o:Obj):Ix (w.alloc o) x m l:=h.on ((Below.refl _ _).alloc (Nat.le_refl _) o)
theorem Ix.drew {w:World} {x m:Nat} {l:List Nt} (h:Ix w x m l):Ix w.drew x m l:=h
theorem zdP.put_all {w:World} {b n:Nat} {l:List Nt} (h:zdP w b n l) (hn:n<maxLen) (nt:Nt) (hl:zcA l) (hnt:Fair nt) :
  ∃U:World→World,∀w',w'.heap[b]?=w.heap[b]?→(Instr.mapUpdate 176 (.map (some b)) (keyV nt.foot nt.num) (.agg #[.int .i64 (mx (zbq l nt.foot nt.num) nt.att 0),.int .i64 (mx (zbq l nt.foot nt.num) nt.att 1),.int .i64 (mx (zbq l nt.foot nt.num) nt.att 2),.int .i64 (mx (zbq l nt.foot nt.num) nt.att 3),.int .i64 (mx (zbq l nt.foot nt.num) nt.att 4),.int .i64 (mx (zbq l nt.foot nt.num) nt.att 5),.int .i64 (mx (zbq l nt.foot nt.num) nt.att 6),.int .i64 (mx (zbq l nt.foot nt.num) nt.att 7)])).run Tryz.prog w'=.ok () (U w')∧zdP (U w') b (n+1) (l ++ [nt])∧w'.grownBy (U w') (some b):=by
 have H:∀w',w'.heap[b]?=w.heap[b]?→∃w'',(Instr.mapUpdate 176 (.map (some b)) (keyV nt.foot nt.num) (.agg #[.int .i64 (mx (zbq l nt.foot nt.num) nt.att 0),.int .i64 (mx (zbq l nt.foot nt.num) nt.att 1),.int .i64 (mx (zbq l nt.foot nt.num) nt.att 2),.int .i64 (mx (zbq l nt.foot nt.num) nt.att 3),.int .i64 (mx (zbq l nt.foot nt.num) nt.att 4),.int .i64 (mx (zbq l nt.foot nt.num) nt.att 5),.int .i64 (mx (zbq l nt.foot nt.num) nt.att 6),.int .i64 (mx (zbq l nt.foot nt.num) nt.att 7)])).run Tryz.prog w'=.ok () w''∧zdP w'' b (n+1) (l ++ [nt])∧w'.grownBy w'' (some b) :=
  fun w' e=>(h.same e).put hn nt hl hnt
 classical
 exact ⟨fun w'=>if e:w'.heap[b]?=w.heap[b]? then (H w' e).choose else w',fun w' e=>by
  have:=(H w' e).choose_spec
  simp only [dif_pos e]
  exact this⟩
theorem zq6 {w W:World} {f:ByteArray} {u:Int} {a:Nat→Int} (h:w.alloc (.cells (#[.string f,.int .u64 u,.int .i64 (a 0),.int .i64 (a 1),.int .i64 (a 2),.int .i64 (a 3),.int .i64 (a 4),.int .i64 (a 5),.int .i64 (a 6),.int .i64 (a 7)]) 114)=W) :
  Hid (Blk W w.heap.size 114 (#[.string f,.int .u64 u,.int .i64 (a 0),.int .i64 (a 1),.int .i64 (a 2),.int .i64 (a 3),.int .i64 (a 4),.int .i64 (a 5),.int .i64 (a 6),.int .i64 (a 7)]))∧Hid (Below w.heap.size w W):=za1 h
theorem zg8 {w':World} {g:Nat} {T:TypeId} {f:ByteArray} {u:Int} {a:Nat→Int} (h:Blk w' g T (#[.string f,.int .u64 u,.int .i64 (a 0),.int .i64 (a 1),.int .i64 (a 2),.int .i64 (a 3),.int .i64 (a 4),.int .i64 (a 5),.int .i64 (a 6),.int .i64 (a 7)])):(w'.cell? ⟨g,0,none⟩=some (.string f)∧w'.cell? ⟨g,1,none⟩=some (.int .u64 u)∧w'.cell? ⟨g,2,none⟩=some (.int .i64 (a 0))∧w'.cell? ⟨g,3,none⟩=some (.int .i64 (a 1))∧w'.cell? ⟨g,4,none⟩=some (.int .i64 (a 2))∧w'.cell? ⟨g,5,none⟩=some (.int .i64 (a 3))∧w'.cell? ⟨g,6,none⟩=some (.int .i64 (a 4))∧w'.cell? ⟨g,7,none⟩=some (.int .i64 (a 5))∧w'.cell? ⟨g,8,none⟩=some (.int .i64 (a 6))∧w'.cell? ⟨g,9,none⟩=some (.int .i64 (a 7))) :=
 ⟨(h.cell 0).trans rfl,(h.cell 1).trans rfl,(h.cell 2).trans rfl,(h.cell 3).trans rfl,(h.cell 4).trans rfl,(h.cell 5).trans rfl,(h.cell 6).trans rfl,(h.cell 7).trans rfl,(h.cell 8).trans rfl,(h.cell 9).trans rfl⟩
def zu6 (w':World) (x m k:Nat) (f:ByteArray) (u:Int) (a:Nat→Int):Prop:=w'.cell? ⟨x,0,none⟩=some (.map (some m))∧(w'.cell? ⟨k,0,none⟩=some (.string f)∧w'.cell? ⟨k,1,none⟩=some (.int .u64 u)∧w'.cell? ⟨k,2,none⟩=some (.int .i64 (a 0))∧w'.cell? ⟨k,3,none⟩=some (.int .i64 (a 1))∧w'.cell? ⟨k,4,none⟩=some (.int .i64 (a 2))∧w'.cell? ⟨k,5,none⟩=some (.int .i64 (a 3))∧w'.cell? ⟨k,6,none⟩=some (.int .i64 (a 4))∧w'.cell? ⟨k,7,none⟩=some (.int .i64 (a 5))∧w'.cell? ⟨k,8,none⟩=some (.int .i64 (a 6))∧w'.cell? ⟨k,9,none⟩=some (.int .i64 (a 7)))
theorem zmP {w':World} {x m k:Nat} {f:ByteArray} {u:Int} {a:Nat→Int} {T U:TypeId} (h:Blk w' x U #[.map (some m)]) (hk:Blk w' k T (#[.string f,.int .u64 u,.int .i64 (a 0),.int .i64 (a 1),.int .i64 (a 2),.int .i64 (a 3),.int .i64 (a 4),.int .i64 (a 5),.int .i64 (a 6),.int .i64 (a 7)])):zu6 w' x m k f u a:=⟨(h.cell 0).trans rfl,zg8 hk⟩
theorem zkU (x m:Nat) (l:List Nt) (nt:Nt) (w:World) (h:Ix w x m l) (hnt:Fair nt) (hlen:l.length<1000) :
  Calls Tryz.prog 102 #[.pointer (some ⟨x,0,none⟩),.agg #[.string nt.foot,.int .u64 nt.num,.int .i64 (nt.att 0),.int .i64 (nt.att 1),.int .i64 (nt.att 2),.int .i64 (nt.att 3),.int .i64 (nt.att 4),.int .i64 (nt.att 5),.int .i64 (nt.att 6),.int .i64 (nt.att 7)]] w fun e w'=>e=.returned (.tuple #[])∧Ix w' x m (l ++ [nt])∧w.grownBy w' (some m):=by
 obtain ⟨B,hB⟩:∃B,w.heap[m]?=B:=⟨_,rfl⟩
 obtain ⟨U,hU⟩:=h.2.1.put_all (by unfold maxLen;omega) nt h.2.2.1 hnt
 have hL:∀w',w'.heap[m]?=B→(Instr.lookup 176 (.map (some m)) (keyV nt.foot nt.num) false).run Tryz.prog w'=.ok (.agg #[.int .i64 (zbq l nt.foot nt.num 0),.int .i64 (zbq l nt.foot nt.num 1),.int .i64 (zbq l nt.foot nt.num 2),.int .i64 (zbq l nt.foot nt.num 3),.int .i64 (zbq l nt.foot nt.num 4),.int .i64 (zbq l nt.foot nt.num 5),.int .i64 (zbq l nt.foot nt.num 6),.int .i64 (zbq l nt.foot nt.num 7)]) w':=fun w' e=>by
  obtain ⟨_,_,a1,a2,a3⟩:=hnt
  exact (h.2.1.same (e.trans hB.symm)).look a3 ⟨a1,a2⟩
 obtain ⟨C,hC⟩:∃C,zbq l nt.foot nt.num=C:=⟨_,rfl⟩
 rw [hC] at hU hL
 rw [hB] at hU
 have hR:∀w',zdP (U w') m (l.length+1) (l ++ [nt])→Blk (U w') x 178 #[.map (some m)]→Ix (U w') x m (l ++ [nt]):=fun w' h1 h2=>⟨h2,by simpa using h1,h.2.2.1.snoc hnt,h.2.2.2⟩
 obtain ⟨f,u,a⟩:=nt
 obtain ⟨M,hM⟩:∃M,mx C a=M:=⟨_,rfl⟩
 simp only at hU hL hR
 rw [hM] at hU
 have HM:=hid (fun w=>zuj C a w)
 rw [hM] at HM
 have hE:∀w',w'.heap[m]?=B→(Instr.mapUpdate 176 (.map (some m)) (keyV f u) (.agg #[.int .i64 (M 0),.int .i64 (M 1),.int .i64 (M 2),.int .i64 (M 3),.int .i64 (M 4),.int .i64 (M 5),.int .i64 (M 6),.int .i64 (M 7)])).run Tryz.prog w'=.ok () (U w'):=fun w' e=>(hU w' e).1
 have HU:=hid hU
 have HR:=hid hR
 have HX:=hid h
 have HB:=hid hB
 clear hU hR h hB hnt hC hM
 go_enter Tryz.func102,Tryz.ntmps102
 go_upto_region 1 with fail
 obtain ⟨W,hW⟩:∃W,w.alloc (.cells (#[.string f,.int .u64 u,.int .i64 (a 0),.int .i64 (a 1),.int .i64 (a 2),.int .i64 (a 3),.int .i64 (a 4),.int .i64 (a 5),.int .i64 (a 6),.int .i64 (a 7)]) 114)=W:=⟨_,rfl⟩
 rw [hW]
 obtain ⟨K0,KB⟩:=zq6 hW
 clear hW
 have KX:=hid (HX.out.on KB.out)
 have KM:Hid (W.heap[m]?=B):=hid ((KB.out.block m HX.out.lt.2).trans HB.out)
 obtain ⟨k,hk⟩:∃k,w.heap.size=k:=⟨_,rfl⟩
 rw [hk] at K0 KB
 rw [hk]
 have HK:=hid hk
 clear hk
 have hL0:=hL W KM.out
 have hL1:=hL W.drew KM.out
 have hne1:Hid (x≠m):=hid KX.out.ne
 have hne2:Hid (k≠m):=hid (by have:=HX.out.lt.2;have:=HK.out;omega)
 clear hL
 have HE:=hid hE
 clear hE
 go_region_held3 (fun w'=>w'.cell? ⟨x,0,none⟩=some (.map (some m))∧(w'.cell? ⟨k,0,none⟩=some (.string f)∧w'.cell? ⟨k,1,none⟩=some (.int .u64 u)∧w'.cell? ⟨k,2,none⟩=some (.int .i64 (a 0))∧w'.cell? ⟨k,3,none⟩=some (.int .i64 (a 1))∧w'.cell? ⟨k,4,none⟩=some (.int .i64 (a 2))∧w'.cell? ⟨k,5,none⟩=some (.int .i64 (a 3))∧w'.cell? ⟨k,6,none⟩=some (.int .i64 (a 4))∧w'.cell? ⟨k,7,none⟩=some (.int .i64 (a 5))∧w'.cell? ⟨k,8,none⟩=some (.int .i64 (a 6))∧w'.cell? ⟨k,9,none⟩=some (.int .i64 (a 7))))
  (first | exact zmP KX.out.1 K0.out | exact zmP KX.out.1.drew K0.out.drew | exact zmP D1.out.1 D0.out | exact zmP E1.out E0.out)
  (first
   | (go_at_call 141;(with_reducible refine (HM.out _).mono ?_);rintro e w3 ⟨rfl,g3⟩;have D1:=hid (KX.out.drew.on g3);have D0:=hid (K0.out.drew.below g3 K0.out.lt);have DM:=hid ((g3.block m KX.out.lt.2).trans KM.out);have hE3:=HE.out _ DM.out;have E1:=hid (D1.out.1.grown (HU.out _ DM.out).2.2 (by simpa using hne1.out));have E0:=hid (D0.out.grown (HU.out _ DM.out).2.2 (by simpa using hne2.out))))
 have KB2:Hid (Below w.heap.size w W.drew):=hid (by rw [HK.out];exact zag KB.out)
 have G3:Hid (w.grownBy (U w3) (some m)):=hid (World.grownBy.trans (zam (KB2.out.trans (g3.mono KB2.out.size)) _) (HU.out _ DM.out).2.2)
 have R3:=hid (HR.out _ (HU.out _ DM.out).2.1 E1.out)
 rename_i hHeld
 clear hHeld g3 hE3
 go_end0
 exact ⟨rfl,R3.out,G3.out⟩
theorem zk2 (x m n:Nat) (D:DataW Unit) (w:World) (h:w.cell? ⟨x,0,none⟩=some (.map (some m))) (hD:w.ownsMap Tryz.prog 112 attR m n D) :
  Calls Tryz.prog 104 #[.pointer (some ⟨x,0,none⟩)] w fun e w'=>e=.returned (.int .i64 (Maps.size D:Nat))∧w=w':=by
 have HD:=hid hD
 clear hD
 go_enter Tryz.func104,Tryz.ntmps104
 go_wp2_with (first | (at_len;with_reducible refine wpList_len_own _ rfl _ 176 rfl 112 64 Tryz.underlying176 attR m n D rfl HD.out ?_))
 go_ret
 exact ⟨rfl,rfl⟩
def zo4 (c:K) (r s q:Int):Nt:=⟨keyF c,keyN c,upd (upd (fun _=>0) 0 (cutS q)) (1+r.toNat) (s+1)⟩
def zdt (l:List Nt) (c:K) (r s q:Int):List Nt:=if zns c && zds r s then l ++ [zo4 c r s q] else l
theorem zp1 {c:K} {r s q:Int} (hn:zds r s=true) (hf:c.foot.size<200) (hp:c.path.size<200) (hu:0≤c.num∧c.num<18446744073709551616):Fair (zo4 c r s q):=by
 obtain ⟨a,b,rfl,rfl,ha,hb,_⟩:=ze9 hn
 have hq:0≤cutS q∧cutS q≤1073741824:=by unfold cutS;split <;> (try split) <;> omega
 refine ⟨zem.2 ⟨?_,fun i hi=>?_⟩,fun i hi=>?_,?_,?_,zqa c 200 (by omega) (by omega)⟩
 ·show 0≤(upd (upd (fun _=>0) 0 (cutS q)) (1+(a:Int).toNat) ((b:Int)+1)) 0∧(upd (upd (fun _=>0) 0 (cutS q)) (1+(a:Int).toNat) ((b:Int)+1)) 0≤1073741824
  unfold upd
  rw [if_neg (by omega),if_pos rfl]
  exact hq
 ·show 0≤(upd (upd (fun _=>0) 0 (cutS q)) (1+(a:Int).toNat) ((b:Int)+1)) (i+1)∧(upd (upd (fun _=>0) 0 (cutS q)) (1+(a:Int).toNat) ((b:Int)+1)) (i+1)≤1024
  unfold upd
  split
  ·omega
  ·rw [if_neg (by omega)];exact ⟨Int.le_refl 0,(by decide:(0:Int)≤1024)⟩
 ·show (upd (upd (fun _=>0) 0 (cutS q)) (1+(a:Int).toNat) ((b:Int)+1)) i=0
  unfold upd
  rw [if_neg (by omega),if_neg (by omega)]
 ·show 0≤keyN c
  unfold keyN;split
  ·exact hu.1
  ·exact Int.le_refl _
 ·show keyN c<18446744073709551616
  unfold keyN;split
  ·exact hu.2
  ·decide
theorem zuf (q mx:Int) (h:(if q<0 then 0 else q)=mx):min mx 1073741824=cutS q:=by
 unfold cutS
 split at h <;> (try split) <;> omega
theorem znN {w W:World} {cs:Array Value} {r s:Int} (h:(w.alloc (.cells cs 61)).alloc (.cells #[.int .i64 r,.int .i64 s] 55)=W) :
  Hid (Blk W w.heap.size 61 cs)∧Hid (Blk W (w.heap.size+1) 55 #[.int .i64 r,.int .i64 s])∧Hid (Below w.heap.size w W):=zcE h
theorem ztJ (n:Int):(#[.int .i64 n,.int .i64 0,.int .i64 0,.int .i64 0,.int .i64 0,.int .i64 0,.int .i64 0,.int .i64 0]:Array Value)=rowA (upd (fun _=>0) 0 n):=rfl
theorem zka {w:World} {g:Nat} {f:Nat→Int} (h:zuv w g f):w.cell? ⟨g,0,none⟩=some (.int .i64 (f 0))∧w.cell? ⟨g,1,none⟩=some (.int .i64 (f 1))∧w.cell? ⟨g,2,none⟩=some (.int .i64 (f 2))∧w.cell? ⟨g,3,none⟩=some (.int .i64 (f 3))∧w.cell? ⟨g,4,none⟩=some (.int .i64 (f 4))∧w.cell? ⟨g,5,none⟩=some (.int .i64 (f 5))∧w.cell? ⟨g,6,none⟩=some (.int .i64 (f 6))∧w.cell? ⟨g,7,none⟩=some (.int .i64 (f 7)):=h
theorem zmX (x m:Nat) (l:List Nt) (c:K) (r s q:Int) (w:World) (h:Ix w x m l) (hP:zad w) (hf:c.foot.size<200) (hp:c.path.size<200) (hu:0≤c.num∧c.num<18446744073709551616) (hlen:l.length<1000) :
  Calls Tryz.prog 63 #[.pointer (some ⟨x,0,none⟩),val c,nm r s,.int .i64 q] w fun e w'=>e=.returned (.tuple #[])∧Ix w' x m (zdt l c r s q)∧w.grownBy w' (some m):=by
 have HF:=hid (fun (hn:zds r s=true)=>zp1 (q:=q) hn hf hp hu)
 have KO:=hid (fun w h=>zqq c w h (by omega) (by omega))
 obtain ⟨F,hF⟩:∃F,keyF c=F:=⟨_,rfl⟩
 obtain ⟨N,hN⟩:∃N,keyN c=N:=⟨_,rfl⟩
 obtain ⟨y,hy⟩:∃y,zds r s=y:=⟨_,rfl⟩
 obtain ⟨B,hB⟩:∃B,zns c=B:=⟨_,rfl⟩
 have HL:Hid (zdt l c r s q=if B && y then l ++ [⟨F,N,upd (upd (fun _=>0) 0 (cutS q)) (1+r.toNat) (s+1)⟩] else l):=hid (by unfold zdt zo4;rw [hB,hy,hF,hN])
 have HF2:Hid (y=true→Fair ⟨F,N,upd (upd (fun _=>0) 0 (cutS q)) (1+r.toNat) (s+1)⟩):=hid (by have:=HF.out;unfold zo4 at this;rw [hF,hN,hy] at this;exact this)
 rw [hF,hN,hB] at KO
 have HY:=hid hy
 have HN:Hid (y=true→∃a b:Nat,r=a∧s=b∧a<7∧b<1024):=hid (fun h=>by
  subst h;obtain ⟨a,b,h1,h2,h3,h4,_⟩:=ze9 hy;exact ⟨a,b,h1,h2,h3,h4⟩)
 have HX:=hid h
 have HP:=hid hP
 clear h hP HF hf hp hu hF hN hy hB
 obtain ⟨k,u,f,q',s',m',n,t⟩:=c
 go_enter Tryz.func63,Tryz.ntmps63
 go_upto_region 1 with fail
 obtain ⟨W,hW⟩:∃W,(w.alloc (.cells (cellsOf ⟨k,u,f,q',s',m',n,t⟩) 61)).alloc (.cells #[.int .i64 r,.int .i64 s] 55)=W:=⟨_,rfl⟩
 rw [hW]
 obtain ⟨K0,K1,KB⟩:=znN hW
 clear hW
 have KX:=hid (HX.out.on KB.out)
 have KP:=hid (HP.out.below KB.out)
 have hw:=HX.out.lt
 obtain ⟨g,hk⟩:∃k,w.heap.size=k:=⟨_,rfl⟩
 rw [hk] at K0 K1 KB hw
 rw [hk]
 have HK:=hid hk
 clear hk
 obtain ⟨⟨c0,c1,c2,c3,c4,c5,c6,c7⟩,_⟩:=zaa K0.out
 go_wp2_with fail
 with_reducible refine (KO.out _ KP.out).mono ?_
 rintro e w1 ⟨rfl,hb⟩
 clear c0 c1 c2 c3 c4 c5 c6 c7
 have D1:=hid ((K1.out.below hb K1.out.lt).alloc (.cells (keyC F N) 112))
 have DX:=hid ((KX.out.on hb).alloc (.cells (keyC F N) 112))
 have DB:=hid ((KB.out.trans (hb.mono (by have:=K0.out.lt;omega))).alloc (by have:=(K0.out.below hb K0.out.lt).lt;omega) (.cells (keyC F N) 112))
 have DK:=hid (Blk.new w1 112 (keyC F N))
 have hw1:Hid (g+1<w1.heap.size):=hid (K1.out.below hb K1.out.lt).lt
 clear hb K0 K1 KB KP KX HP
 cases B
 ·have HL2:Hid (zdt l ⟨k,u,f,q',s',m',n,t⟩ r s q=l):=hid (by rw [HL.out];simp)
  go_wp2
  refine bodyPost_ret (v:=.tuple #[]) (results_none (by kernel_rfl) _ _ _) rfl ?_
  exact ⟨rfl,by rw [HL2.out];exact DX.out,by rw [HK.out.symm] at DB;exact zam DB.out _⟩
 ·obtain ⟨⟨i0,i1⟩,_,_⟩:=blkn D1.out
  obtain ⟨⟨d0,d1⟩,g0,g1⟩:=zeY DK.out
  go_wp2_with fail
  with_reducible refine (zeJ r s _).mono ?_
  rw [HY.out]
  rintro e w2 ⟨rfl,hb⟩
  clear i0 i1 d0 d1 g0 g1
  have E1:=hid (D1.out.below hb D1.out.lt)
  have EX:=hid (DX.out.on hb)
  have EB:=hid (DB.out.trans (hb.mono (Nat.le_of_lt (Nat.lt_of_succ_lt D1.out.lt))))
  have EK:=hid (DK.out.below hb DK.out.lt)
  clear hb D1 DX DB DK
  cases y
  ·have HL2:Hid (zdt l ⟨k,u,f,q',s',m',n,t⟩ r s q=l):=hid (by rw [HL.out];simp)
   go_wp2
   refine bodyPost_ret (v:=.tuple #[]) (results_none (by kernel_rfl) _ _ _) rfl ?_
   exact ⟨rfl,by rw [HL2.out];exact EX.out,by rw [HK.out.symm] at EB;exact zam EB.out _⟩
  ·obtain ⟨a,b,rfl,rfl,ha,hb2⟩:=HN.out rfl
   obtain ⟨mx,hmx⟩:∃mx,(if q<0 then 0 else q)=mx:=⟨_,rfl⟩
   have hm1:=fun (w:World) (ts:Array TypeId) (t:TypeId)=>zrR Tryz.prog q 0 mx hmx w ts t
   obtain ⟨cu,hcu⟩:∃cu,cutS q=cu:=⟨_,rfl⟩
   have hm2:=fun (w:World) (ts:Array TypeId) (t:TypeId)=>zrT Tryz.prog mx 1073741824 cu ((zuf q mx hmx).trans hcu) w ts t
   have HF3:=HF2.out rfl
   rw [hcu,Int.toNat_natCast] at HF3
   have HF4:=hid HF3
   have HL2:Hid (zdt l ⟨k,u,f,q',s',m',n,t⟩ a b q=l ++ [⟨F,N,upd (upd (fun _=>0) 0 cu) (1+a) (b+1)⟩]):=hid (by rw [HL.out,hcu,Int.toNat_natCast];rfl)
   clear HF3 HF2 HL hmx hcu
   obtain ⟨⟨i0,i1⟩,_,_⟩:=blkn E1.out
   have hb3:(b:Int)<1024:=by omega
   have ha3:(a:Int)<7:=by omega
   go_upto_region 4 with fail
   obtain ⟨W3,hW3⟩:∃W3,w2.alloc (.cells #[.int .i64 cu,.int .i64 0,.int .i64 0,.int .i64 0,.int .i64 0,.int .i64 0,.int .i64 0,.int .i64 0] 64)=W3:=⟨_,rfl⟩
   rw [hW3]
   obtain ⟨A0,AB⟩:=za1 hW3
   rw [ztJ] at A0
   clear hW3 i0 i1 hm1 hm2
   have F1:=hid (E1.out.below AB.out E1.out.lt)
   have FX:=hid (EX.out.on AB.out)
   have FB:=hid (EB.out.trans (AB.out.mono (Nat.le_of_lt (Nat.lt_of_succ_lt E1.out.lt))))
   have FK:=hid (EK.out.below AB.out EK.out.lt)
   have z1:Hid (w1.heap.size<w2.heap.size):=hid EK.out.lt
   have z2:Hid (g+1<w2.heap.size):=hid E1.out.lt
   obtain ⟨v,hv⟩:∃v,w2.heap.size=v:=⟨_,rfl⟩
   rw [hv] at A0 AB z1 z2
   rw [hv]
   clear E1 EX EB EK AB hv
   have g0:=A0.out.frozen (1+a)
   have g1:=A0.out.att (i:=1+a) (by omega)
   obtain ⟨⟨i0,i1⟩,_,_⟩:=blkn F1.out
   go_upto_region 5 with fail
   obtain ⟨W4,hW4⟩:∃W4,W3.setCell ⟨v,1+a,none⟩ (.int .i64 ((b:Int)+1))=W4:=⟨_,rfl⟩
   rw [hW4]
   have G0:Hid (Blk W4 v 64 (rowA (upd (upd (fun _=>0) 0 cu) (1+a) (b+1)))):=hid (by rw [←hW4];exact A0.out.attSet _ _)
   have hb4:Hid (Below v W3 W4):=hid (by rw [←hW4];exact (Below.refl v W3).setCell (p:=⟨v,1+a,none⟩) (Nat.le_refl _) _)
   have GX:Hid (Ix W4 x m l):=hid (FX.out.on2 hb4.out (by have:=z2.out;omega) (by have:=z2.out;omega))
   have GB:=hid (FB.out.trans (hb4.out.mono (by have:=z2.out;omega)))
   have GK:=hid (FK.out.below hb4.out z1.out)
   clear hW4 hb4 g0 g1 i0 i1 A0 FX FB FK F1 z1 z2
   obtain ⟨A,hA⟩:∃A,upd (upd (fun _=>(0:Int)) 0 cu) (1+a) ((b:Int)+1)=A:=⟨_,rfl⟩
   rw [hA] at G0 HL2 HF4
   clear hA
   obtain ⟨⟨d0,d1⟩,_,_⟩:=zeY GK.out
   obtain ⟨c0,c1,c2,c3,c4,c5,c6,c7⟩:=zka G0.out.eight
   go_wp2_with fail
   with_reducible refine (zkU x m l ⟨F,N,A⟩ _ GX.out HF4.out hlen).mono ?_
   rintro e w5 ⟨rfl,r1,r2⟩
   have R1:Hid (Ix w5 x m (zdt l ⟨k,u,f,q',s',m',n,t⟩ a b q)):=hid (by rw [HL2.out];exact r1)
   have R2:Hid (w.grownBy w5 (some m)):=hid (World.grownBy.trans (zam (by rw [HK.out];exact GB.out) _) r2)
   clear r1 r2 d0 d1 c0 c1 c2 c3 c4 c5 c6 c7
   go_wp2
   go_end0
   exact ⟨rfl,R1.out,R2.out⟩
end Go.Proofs.YtnjdckoljmgcjaaGreatDoor
