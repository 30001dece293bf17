/-
  The contract of Put (package cmd), once for each class of kinds: a right command's bytes.
-/
import Derived.Test.YtnjdckoljmgcjaaGreatDoorW12
set_option maxRecDepth 100000
set_option maxHeartbeats 4000000
namespace Go.Proofs.YtnjdckoljmgcjaaGreatDoor
open Go.ChangeShapes Go.WideShapes Go.ChangeAt Go.RowKit Go.Lib
set_option linter.unusedSimpArgs false
set_option linter.unusedVariables false
theorem zvi (base g:Nat) (lb:List Nat) (k u:Int) (f:ByteArray) (q:Int) (s:ByteArray) (m n t:Int) (w:World) (hP:zad w) (hg:0<base) (hO:zaB w base g lb) (hlb:lb.length≤1000000) (hs:Sig k false false false false false false) (hr:zaF ⟨k,u,f,q,s,m,n,t⟩=true)
  (hk:0≤k∧k≤8) (hu:0≤u∧u<18446744073709551616) (hq:0≤q∧q<18446744073709551616) (hn:0≤n∧n<18446744073709551616) (hm:0≤m∧m≤2) (ht:0≤t∧t≤1099511627776) (hf:f.size≤64) (hp:s.size≤64) :
  Calls Tryz.prog 237 #[val ⟨k,u,f,q,s,m,n,t⟩,.pointer (some ⟨g,0,none⟩)] w fun e w'=>e=.returned (.tuple #[])∧zaB w' base g (lb ++ enc ⟨k,u,f,q,s,m,n,t⟩)∧Below base w w'∧za0 g w w':=by
 obtain ⟨s0,s1,s2,s3,s4,s5⟩:=hs
 have S0:=hid s0
 have S1:=hid s1
 have S2:=hid s2
 have S3:=hid s3
 have S4:=hid s4
 have S5:=hid s5
 have HR:=hid hr
 have HL0:Hid (lb.length≤1000000):=hid hlb
 have A0:=hid (zcu.start hO hP hg ⟨k,u,f,q,s,m,n,t⟩)
 obtain ⟨kn,hkn⟩:∃kn:Nat,k=(kn:Int):=⟨k.toNat,by omega⟩
 obtain ⟨un,hun⟩:∃kn:Nat,u=(kn:Int):=⟨u.toNat,by omega⟩
 obtain ⟨qn,hqn⟩:∃kn:Nat,q=(kn:Int):=⟨q.toNat,by omega⟩
 obtain ⟨mn,hmn⟩:∃kn:Nat,m=(kn:Int):=⟨m.toNat,by omega⟩
 obtain ⟨nn,hnn⟩:∃kn:Nat,n=(kn:Int):=⟨n.toNat,by omega⟩
 obtain ⟨tn,htn⟩:∃kn:Nat,t=(kn:Int):=⟨t.toNat,by omega⟩
 have b1:kn≤8:=by omega
 have b2:un<18446744073709551616:=by omega
 have b3:qn<18446744073709551616:=by omega
 have b4:mn≤2:=by omega
 have b5:nn<18446744073709551616:=by omega
 have b6:tn≤1099511627776:=by omega
 have W1:IntKind.u8.wrap k=k:=by rw [IntKind.wrap_u8];omega
 have W2:IntKind.u8.wrap m=m:=by rw [IntKind.wrap_u8];omega
 have W3:IntKind.u64.wrap t=t:=by rw [IntKind.wrap_u64];omega
 have M1:k % 256=k:=by omega
 have M2:m % 256=m:=by omega
 have M3:t % 18446744073709551616=t:=by omega
 have HKN:=hid hkn
 have HUN:=hid hun
 have HQN:=hid hqn
 have HMN:=hid hmn
 have HNN:=hid hnn
 have HTN:=hid htn
 have E:Hid (lb ++ enc ⟨k,u,f,q,s,m,n,t⟩=(lb ++ [kn])):=hid (by simp only [enc,e0,e1,e2,e3,e4,e5,zdJ,s0,s1,s2,s3,s4,s5];simp [hkn,hun,hqn,hmn,hnn,htn])
 have hf':f.size≤4611686018427387903:=by omega
 have hp':s.size≤4611686018427387903:=by omega
 clear s0 s1 s2 s3 s4 s5 hr hP hO hg hlb hkn hun hqn hmn hnn htn hk hu hq hn hm ht
 go_enter Tryz.func237,Tryz.ntmps237
 go_wp2_with fail
 with_reducible refine (zaJ ⟨k,u,f,q,s,m,n,t⟩ _ A0.out.parts hf' hp').mono ?_
 rw [HR.out]
 rintro e w1 ⟨rfl,hb⟩
 have A1:=hid (A0.out.on hb)
 clear hb A0
 obtain ⟨⟨c0,c1,c2,c3,c4,c5,c6,c7⟩,f0,f1,f2,f3,f4,f5,f6,f7⟩:=zaa A1.out.2.1
 go_wp2_with fail
 with_reducible refine (zaT base g lb kn _ _ A1.out.oat HKN.out (by have:=HL0.out;omega)).mono ?_
 rintro en w2 ⟨⟨rfl,ho,hb⟩,hs⟩
 have A2:=hid (A1.out.put ho hb hs)
 clear ho hb hs A1
 obtain ⟨l1,hl1⟩:∃x,lb ++ [kn]=x:=⟨_,rfl⟩
 have HL1:Hid (l1.length≤1000001):=hid (by rw [←hl1];have h0:=HL0.out;rw [List.length_append,List.length_singleton];omega)
 rw [hl1] at A2
 have HE1:=hid hl1
 clear hl1
 clear c0 c1 c2 c3 c4 c5 c6 c7 f0 f1 f2 f3 f4 f5 f6 f7
 obtain ⟨⟨c0,c1,c2,c3,c4,c5,c6,c7⟩,f0,f1,f2,f3,f4,f5,f6,f7⟩:=zaa A2.out.2.1
 go_wp2_with fail
 with_reducible refine (zb3 ⟨k,u,f,q,s,m,n,t⟩ false _ S0.out A2.out.parts).mono ?_
 rintro e w3 ⟨rfl,hb⟩
 have A3:=hid (A2.out.on hb)
 clear hb A2
 clear c0 c1 c2 c3 c4 c5 c6 c7 f0 f1 f2 f3 f4 f5 f6 f7
 obtain ⟨⟨c0,c1,c2,c3,c4,c5,c6,c7⟩,f0,f1,f2,f3,f4,f5,f6,f7⟩:=zaa A3.out.2.1
 go_wp2_with fail
 with_reducible refine (zb7 ⟨k,u,f,q,s,m,n,t⟩ false _ S1.out A3.out.parts).mono ?_
 rintro e w4 ⟨rfl,hb⟩
 have A4:=hid (A3.out.on hb)
 clear hb A3
 clear c0 c1 c2 c3 c4 c5 c6 c7 f0 f1 f2 f3 f4 f5 f6 f7
 obtain ⟨⟨c0,c1,c2,c3,c4,c5,c6,c7⟩,f0,f1,f2,f3,f4,f5,f6,f7⟩:=zaa A4.out.2.1
 go_wp2_with fail
 with_reducible refine (zb5 ⟨k,u,f,q,s,m,n,t⟩ false _ S2.out A4.out.parts).mono ?_
 rintro e w5 ⟨rfl,hb⟩
 have A5:=hid (A4.out.on hb)
 clear hb A4
 clear c0 c1 c2 c3 c4 c5 c6 c7 f0 f1 f2 f3 f4 f5 f6 f7
 obtain ⟨⟨c0,c1,c2,c3,c4,c5,c6,c7⟩,f0,f1,f2,f3,f4,f5,f6,f7⟩:=zaa A5.out.2.1
 go_wp2_with fail
 with_reducible refine (zca ⟨k,u,f,q,s,m,n,t⟩ false _ S3.out A5.out.parts).mono ?_
 rintro e w6 ⟨rfl,hb⟩
 have A6:=hid (A5.out.on hb)
 clear hb A5
 clear c0 c1 c2 c3 c4 c5 c6 c7 f0 f1 f2 f3 f4 f5 f6 f7
 obtain ⟨⟨c0,c1,c2,c3,c4,c5,c6,c7⟩,f0,f1,f2,f3,f4,f5,f6,f7⟩:=zaa A6.out.2.1
 go_wp2_with fail
 with_reducible refine (zbT ⟨k,u,f,q,s,m,n,t⟩ false _ S4.out A6.out.parts).mono ?_
 rintro e w7 ⟨rfl,hb⟩
 have A7:=hid (A6.out.on hb)
 clear hb A6
 clear c0 c1 c2 c3 c4 c5 c6 c7 f0 f1 f2 f3 f4 f5 f6 f7
 obtain ⟨⟨c0,c1,c2,c3,c4,c5,c6,c7⟩,f0,f1,f2,f3,f4,f5,f6,f7⟩:=zaa A7.out.2.1
 go_wp2_with fail
 with_reducible refine (zb4 ⟨k,u,f,q,s,m,n,t⟩ false _ S5.out A7.out.parts).mono ?_
 rintro e w8 ⟨rfl,hb⟩
 have A8:=hid (A7.out.on hb)
 clear hb A7
 clear c0 c1 c2 c3 c4 c5 c6 c7 f0 f1 f2 f3 f4 f5 f6 f7
 obtain ⟨⟨c0,c1,c2,c3,c4,c5,c6,c7⟩,f0,f1,f2,f3,f4,f5,f6,f7⟩:=zaa A8.out.2.1
 have R:Hid (zaB w8 base g (lb ++ enc ⟨k,u,f,q,s,m,n,t⟩)∧Below base w w8∧za0 g w w8):=hid ⟨by rw [E.out,HE1.out];exact A8.out.1,A8.out.bel,A8.out.stays⟩
 clear A8
 go_wp2
 go_end0
 exact ⟨rfl,R.out⟩
theorem zvx (base g:Nat) (lb:List Nat) (k u:Int) (f:ByteArray) (q:Int) (s:ByteArray) (m n t:Int) (w:World) (hP:zad w) (hg:0<base) (hO:zaB w base g lb) (hlb:lb.length≤1000000) (hs:Sig k true true false false true true) (hr:zaF ⟨k,u,f,q,s,m,n,t⟩=true)
  (hk:0≤k∧k≤8) (hu:0≤u∧u<18446744073709551616) (hq:0≤q∧q<18446744073709551616) (hn:0≤n∧n<18446744073709551616) (hm:0≤m∧m≤2) (ht:0≤t∧t≤1099511627776) (hf:f.size≤64) (hp:s.size≤64) :
  Calls Tryz.prog 237 #[val ⟨k,u,f,q,s,m,n,t⟩,.pointer (some ⟨g,0,none⟩)] w fun e w'=>e=.returned (.tuple #[])∧zaB w' base g (lb ++ enc ⟨k,u,f,q,s,m,n,t⟩)∧Below base w w'∧za0 g w w':=by
 obtain ⟨s0,s1,s2,s3,s4,s5⟩:=hs
 have S0:=hid s0
 have S1:=hid s1
 have S2:=hid s2
 have S3:=hid s3
 have S4:=hid s4
 have S5:=hid s5
 have HR:=hid hr
 have HL0:Hid (lb.length≤1000000):=hid hlb
 have A0:=hid (zcu.start hO hP hg ⟨k,u,f,q,s,m,n,t⟩)
 obtain ⟨kn,hkn⟩:∃kn:Nat,k=(kn:Int):=⟨k.toNat,by omega⟩
 obtain ⟨un,hun⟩:∃kn:Nat,u=(kn:Int):=⟨u.toNat,by omega⟩
 obtain ⟨qn,hqn⟩:∃kn:Nat,q=(kn:Int):=⟨q.toNat,by omega⟩
 obtain ⟨mn,hmn⟩:∃kn:Nat,m=(kn:Int):=⟨m.toNat,by omega⟩
 obtain ⟨nn,hnn⟩:∃kn:Nat,n=(kn:Int):=⟨n.toNat,by omega⟩
 obtain ⟨tn,htn⟩:∃kn:Nat,t=(kn:Int):=⟨t.toNat,by omega⟩
 have b1:kn≤8:=by omega
 have b2:un<18446744073709551616:=by omega
 have b3:qn<18446744073709551616:=by omega
 have b4:mn≤2:=by omega
 have b5:nn<18446744073709551616:=by omega
 have b6:tn≤1099511627776:=by omega
 have W1:IntKind.u8.wrap k=k:=by rw [IntKind.wrap_u8];omega
 have W2:IntKind.u8.wrap m=m:=by rw [IntKind.wrap_u8];omega
 have W3:IntKind.u64.wrap t=t:=by rw [IntKind.wrap_u64];omega
 have M1:k % 256=k:=by omega
 have M2:m % 256=m:=by omega
 have M3:t % 18446744073709551616=t:=by omega
 have HKN:=hid hkn
 have HUN:=hid hun
 have HQN:=hid hqn
 have HMN:=hid hmn
 have HNN:=hid hnn
 have HTN:=hid htn
 have E:Hid (lb ++ enc ⟨k,u,f,q,s,m,n,t⟩=(((((((lb ++ [kn]) ++ zar un 8) ++ zae f.size) ++ zaw f) ++ zae qn) ++ zae nn) ++ zae tn)):=hid (by simp only [enc,e0,e1,e2,e3,e4,e5,zdJ,s0,s1,s2,s3,s4,s5];simp [hkn,hun,hqn,hmn,hnn,htn])
 have hf':f.size≤4611686018427387903:=by omega
 have hp':s.size≤4611686018427387903:=by omega
 clear s0 s1 s2 s3 s4 s5 hr hP hO hg hlb hkn hun hqn hmn hnn htn hk hu hq hn hm ht
 go_enter Tryz.func237,Tryz.ntmps237
 go_wp2_with fail
 with_reducible refine (zaJ ⟨k,u,f,q,s,m,n,t⟩ _ A0.out.parts hf' hp').mono ?_
 rw [HR.out]
 rintro e w1 ⟨rfl,hb⟩
 have A1:=hid (A0.out.on hb)
 clear hb A0
 obtain ⟨⟨c0,c1,c2,c3,c4,c5,c6,c7⟩,f0,f1,f2,f3,f4,f5,f6,f7⟩:=zaa A1.out.2.1
 go_wp2_with fail
 with_reducible refine (zaT base g lb kn _ _ A1.out.oat HKN.out (by have:=HL0.out;omega)).mono ?_
 rintro en w2 ⟨⟨rfl,ho,hb⟩,hs⟩
 have A2:=hid (A1.out.put ho hb hs)
 clear ho hb hs A1
 obtain ⟨l1,hl1⟩:∃x,lb ++ [kn]=x:=⟨_,rfl⟩
 have HL1:Hid (l1.length≤1000001):=hid (by rw [←hl1];have h0:=HL0.out;rw [List.length_append,List.length_singleton];omega)
 rw [hl1] at A2
 have HE1:=hid hl1
 clear hl1
 clear c0 c1 c2 c3 c4 c5 c6 c7 f0 f1 f2 f3 f4 f5 f6 f7
 obtain ⟨⟨c0,c1,c2,c3,c4,c5,c6,c7⟩,f0,f1,f2,f3,f4,f5,f6,f7⟩:=zaa A2.out.2.1
 go_wp2_with fail
 with_reducible refine (zb3 ⟨k,u,f,q,s,m,n,t⟩ true _ S0.out A2.out.parts).mono ?_
 rintro e w3 ⟨rfl,hb⟩
 have A3:=hid (A2.out.on hb)
 clear hb A2
 clear c0 c1 c2 c3 c4 c5 c6 c7 f0 f1 f2 f3 f4 f5 f6 f7
 obtain ⟨⟨c0,c1,c2,c3,c4,c5,c6,c7⟩,f0,f1,f2,f3,f4,f5,f6,f7⟩:=zaa A3.out.2.1
 go_wp2_with fail
 have D:=hid A3.out.drew
 have HLA:Hid ((l1 ++ zar un 8).length≤1000009):=hid (by have h0:=HL1.out;rw [List.length_append,zbt];omega)
 go_region_held3 (fun w'=>w'.cell? ⟨w.heap.size,1,none⟩=some (.int .u64 u)∧w'.cell? ⟨w.heap.size,2,none⟩=some (.string f))
  (first | exact A3.out.two | exact D.out.two | exact D4.out.two | exact D5.out.two)
  (first
   | (go_at_call 238;(with_reducible refine (zbJ base g l1 un _ _ D.out.oat HUN.out b2 (by have:=HL1.out;omega)).mono ?_);rintro en wa ⟨⟨rfl,ho4,hb4⟩,hs4⟩;have D4:=hid (D.out.put ho4 hb4 hs4))
   | (go_at_call 239;(with_reducible refine (zbz base g (l1 ++ zar un 8) _ f _ rfl D4.out.oat (by omega) (by have:=HLA.out;omega)).mono ?_);rintro en wb ⟨⟨rfl,ho5,hb5⟩,hs5⟩;have D5:=hid (D4.out.put ho5 hb5 hs5)))
 rename_i hHeld
 clear hHeld ho4 hb4 hs4 ho5 hb5 hs5 D D4 A3
 obtain ⟨l2,hl2⟩:∃x,((l1 ++ zar un 8) ++ zae f.size) ++ zaw f=x:=⟨_,rfl⟩
 have HL2:Hid (l2.length≤1000083):=hid (by rw [←hl2];have h0:=HLA.out;have h1:=zah (show f.size<18446744073709551616 by omega);rw [List.length_append,List.length_append,zaR];omega)
 rw [hl2] at D5
 have HE2:=hid hl2
 clear hl2
 clear c0 c1 c2 c3 c4 c5 c6 c7 f0 f1 f2 f3 f4 f5 f6 f7
 obtain ⟨⟨c0,c1,c2,c3,c4,c5,c6,c7⟩,f0,f1,f2,f3,f4,f5,f6,f7⟩:=zaa D5.out.2.1
 go_wp2_with fail
 with_reducible refine (zb7 ⟨k,u,f,q,s,m,n,t⟩ true _ S1.out D5.out.parts).mono ?_
 rintro e w4 ⟨rfl,hb⟩
 have A4:=hid (D5.out.on hb)
 clear hb D5
 clear c0 c1 c2 c3 c4 c5 c6 c7 f0 f1 f2 f3 f4 f5 f6 f7
 obtain ⟨⟨c0,c1,c2,c3,c4,c5,c6,c7⟩,f0,f1,f2,f3,f4,f5,f6,f7⟩:=zaa A4.out.2.1
 go_wp2_with fail
 with_reducible refine (zaz base g l2 qn _ _ A4.out.oat HQN.out (by omega) (by have:=HL2.out;omega)).mono ?_
 rintro en w5 ⟨⟨rfl,ho,hb⟩,hs⟩
 have A5:=hid (A4.out.put ho hb hs)
 clear ho hb hs A4
 obtain ⟨l3,hl3⟩:∃x,l2 ++ zae qn=x:=⟨_,rfl⟩
 have HL3:Hid (l3.length≤1000093):=hid (by rw [←hl3];have h0:=HL2.out;have h1:=zah (show qn<18446744073709551616 by omega);rw [List.length_append];omega)
 rw [hl3] at A5
 have HE3:=hid hl3
 clear hl3
 clear c0 c1 c2 c3 c4 c5 c6 c7 f0 f1 f2 f3 f4 f5 f6 f7
 obtain ⟨⟨c0,c1,c2,c3,c4,c5,c6,c7⟩,f0,f1,f2,f3,f4,f5,f6,f7⟩:=zaa A5.out.2.1
 go_wp2_with fail
 with_reducible refine (zb5 ⟨k,u,f,q,s,m,n,t⟩ false _ S2.out A5.out.parts).mono ?_
 rintro e w6 ⟨rfl,hb⟩
 have A6:=hid (A5.out.on hb)
 clear hb A5
 clear c0 c1 c2 c3 c4 c5 c6 c7 f0 f1 f2 f3 f4 f5 f6 f7
 obtain ⟨⟨c0,c1,c2,c3,c4,c5,c6,c7⟩,f0,f1,f2,f3,f4,f5,f6,f7⟩:=zaa A6.out.2.1
 go_wp2_with fail
 with_reducible refine (zca ⟨k,u,f,q,s,m,n,t⟩ false _ S3.out A6.out.parts).mono ?_
 rintro e w7 ⟨rfl,hb⟩
 have A7:=hid (A6.out.on hb)
 clear hb A6
 clear c0 c1 c2 c3 c4 c5 c6 c7 f0 f1 f2 f3 f4 f5 f6 f7
 obtain ⟨⟨c0,c1,c2,c3,c4,c5,c6,c7⟩,f0,f1,f2,f3,f4,f5,f6,f7⟩:=zaa A7.out.2.1
 go_wp2_with fail
 with_reducible refine (zbT ⟨k,u,f,q,s,m,n,t⟩ true _ S4.out A7.out.parts).mono ?_
 rintro e w8 ⟨rfl,hb⟩
 have A8:=hid (A7.out.on hb)
 clear hb A7
 clear c0 c1 c2 c3 c4 c5 c6 c7 f0 f1 f2 f3 f4 f5 f6 f7
 obtain ⟨⟨c0,c1,c2,c3,c4,c5,c6,c7⟩,f0,f1,f2,f3,f4,f5,f6,f7⟩:=zaa A8.out.2.1
 go_wp2_with fail
 with_reducible refine (zaz base g l3 nn _ _ A8.out.oat HNN.out (by omega) (by have:=HL3.out;omega)).mono ?_
 rintro en w9 ⟨⟨rfl,ho,hb⟩,hs⟩
 have A9:=hid (A8.out.put ho hb hs)
 clear ho hb hs A8
 obtain ⟨l4,hl4⟩:∃x,l3 ++ zae nn=x:=⟨_,rfl⟩
 have HL4:Hid (l4.length≤1000103):=hid (by rw [←hl4];have h0:=HL3.out;have h1:=zah (show nn<18446744073709551616 by omega);rw [List.length_append];omega)
 rw [hl4] at A9
 have HE4:=hid hl4
 clear hl4
 clear c0 c1 c2 c3 c4 c5 c6 c7 f0 f1 f2 f3 f4 f5 f6 f7
 obtain ⟨⟨c0,c1,c2,c3,c4,c5,c6,c7⟩,f0,f1,f2,f3,f4,f5,f6,f7⟩:=zaa A9.out.2.1
 go_wp2_with fail
 with_reducible refine (zb4 ⟨k,u,f,q,s,m,n,t⟩ true _ S5.out A9.out.parts).mono ?_
 rintro e w10 ⟨rfl,hb⟩
 have A10:=hid (A9.out.on hb)
 clear hb A9
 clear c0 c1 c2 c3 c4 c5 c6 c7 f0 f1 f2 f3 f4 f5 f6 f7
 obtain ⟨⟨c0,c1,c2,c3,c4,c5,c6,c7⟩,f0,f1,f2,f3,f4,f5,f6,f7⟩:=zaa A10.out.2.1
 go_wp2_with fail
 with_reducible refine (zaz base g l4 tn _ _ A10.out.oat HTN.out (by omega) (by have:=HL4.out;omega)).mono ?_
 rintro en w11 ⟨⟨rfl,ho,hb⟩,hs⟩
 have A11:=hid (A10.out.put ho hb hs)
 clear ho hb hs A10
 obtain ⟨l5,hl5⟩:∃x,l4 ++ zae tn=x:=⟨_,rfl⟩
 have HL5:Hid (l5.length≤1000113):=hid (by rw [←hl5];have h0:=HL4.out;have h1:=zah (show tn<18446744073709551616 by omega);rw [List.length_append];omega)
 rw [hl5] at A11
 have HE5:=hid hl5
 clear hl5
 clear c0 c1 c2 c3 c4 c5 c6 c7 f0 f1 f2 f3 f4 f5 f6 f7
 obtain ⟨⟨c0,c1,c2,c3,c4,c5,c6,c7⟩,f0,f1,f2,f3,f4,f5,f6,f7⟩:=zaa A11.out.2.1
 have R:Hid (zaB w11 base g (lb ++ enc ⟨k,u,f,q,s,m,n,t⟩)∧Below base w w11∧za0 g w w11):=hid ⟨by rw [E.out,HE1.out,HE2.out,HE3.out,HE4.out,HE5.out];exact A11.out.1,A11.out.bel,A11.out.stays⟩
 clear A11
 go_wp2
 go_end0
 exact ⟨rfl,R.out⟩
theorem zu3 (base g:Nat) (lb:List Nat) (k u:Int) (f:ByteArray) (q:Int) (s:ByteArray) (m n t:Int) (w:World) (hP:zad w) (hg:0<base) (hO:zaB w base g lb) (hlb:lb.length≤1000000) (hs:Sig k true true false false false false) (hr:zaF ⟨k,u,f,q,s,m,n,t⟩=true)
  (hk:0≤k∧k≤8) (hu:0≤u∧u<18446744073709551616) (hq:0≤q∧q<18446744073709551616) (hn:0≤n∧n<18446744073709551616) (hm:0≤m∧m≤2) (ht:0≤t∧t≤1099511627776) (hf:f.size≤64) (hp:s.size≤64) :
  Calls Tryz.prog 237 #[val ⟨k,u,f,q,s,m,n,t⟩,.pointer (some ⟨g,0,none⟩)] w fun e w'=>e=.returned (.tuple #[])∧zaB w' base g (lb ++ enc ⟨k,u,f,q,s,m,n,t⟩)∧Below base w w'∧za0 g w w':=by
 obtain ⟨s0,s1,s2,s3,s4,s5⟩:=hs
 have S0:=hid s0
 have S1:=hid s1
 have S2:=hid s2
 have S3:=hid s3
 have S4:=hid s4
 have S5:=hid s5
 have HR:=hid hr
 have HL0:Hid (lb.length≤1000000):=hid hlb
 have A0:=hid (zcu.start hO hP hg ⟨k,u,f,q,s,m,n,t⟩)
 obtain ⟨kn,hkn⟩:∃kn:Nat,k=(kn:Int):=⟨k.toNat,by omega⟩
 obtain ⟨un,hun⟩:∃kn:Nat,u=(kn:Int):=⟨u.toNat,by omega⟩
 obtain ⟨qn,hqn⟩:∃kn:Nat,q=(kn:Int):=⟨q.toNat,by omega⟩
 obtain ⟨mn,hmn⟩:∃kn:Nat,m=(kn:Int):=⟨m.toNat,by omega⟩
 obtain ⟨nn,hnn⟩:∃kn:Nat,n=(kn:Int):=⟨n.toNat,by omega⟩
 obtain ⟨tn,htn⟩:∃kn:Nat,t=(kn:Int):=⟨t.toNat,by omega⟩
 have b1:kn≤8:=by omega
 have b2:un<18446744073709551616:=by omega
 have b3:qn<18446744073709551616:=by omega
 have b4:mn≤2:=by omega
 have b5:nn<18446744073709551616:=by omega
 have b6:tn≤1099511627776:=by omega
 have W1:IntKind.u8.wrap k=k:=by rw [IntKind.wrap_u8];omega
 have W2:IntKind.u8.wrap m=m:=by rw [IntKind.wrap_u8];omega
 have W3:IntKind.u64.wrap t=t:=by rw [IntKind.wrap_u64];omega
 have M1:k % 256=k:=by omega
 have M2:m % 256=m:=by omega
 have M3:t % 18446744073709551616=t:=by omega
 have HKN:=hid hkn
 have HUN:=hid hun
 have HQN:=hid hqn
 have HMN:=hid hmn
 have HNN:=hid hnn
 have HTN:=hid htn
 have E:Hid (lb ++ enc ⟨k,u,f,q,s,m,n,t⟩=(((((lb ++ [kn]) ++ zar un 8) ++ zae f.size) ++ zaw f) ++ zae qn)):=hid (by simp only [enc,e0,e1,e2,e3,e4,e5,zdJ,s0,s1,s2,s3,s4,s5];simp [hkn,hun,hqn,hmn,hnn,htn])
 have hf':f.size≤4611686018427387903:=by omega
 have hp':s.size≤4611686018427387903:=by omega
 clear s0 s1 s2 s3 s4 s5 hr hP hO hg hlb hkn hun hqn hmn hnn htn hk hu hq hn hm ht
 go_enter Tryz.func237,Tryz.ntmps237
 go_wp2_with fail
 with_reducible refine (zaJ ⟨k,u,f,q,s,m,n,t⟩ _ A0.out.parts hf' hp').mono ?_
 rw [HR.out]
 rintro e w1 ⟨rfl,hb⟩
 have A1:=hid (A0.out.on hb)
 clear hb A0
 obtain ⟨⟨c0,c1,c2,c3,c4,c5,c6,c7⟩,f0,f1,f2,f3,f4,f5,f6,f7⟩:=zaa A1.out.2.1
 go_wp2_with fail
 with_reducible refine (zaT base g lb kn _ _ A1.out.oat HKN.out (by have:=HL0.out;omega)).mono ?_
 rintro en w2 ⟨⟨rfl,ho,hb⟩,hs⟩
 have A2:=hid (A1.out.put ho hb hs)
 clear ho hb hs A1
 obtain ⟨l1,hl1⟩:∃x,lb ++ [kn]=x:=⟨_,rfl⟩
 have HL1:Hid (l1.length≤1000001):=hid (by rw [←hl1];have h0:=HL0.out;rw [List.length_append,List.length_singleton];omega)
 rw [hl1] at A2
 have HE1:=hid hl1
 clear hl1
 clear c0 c1 c2 c3 c4 c5 c6 c7 f0 f1 f2 f3 f4 f5 f6 f7
 obtain ⟨⟨c0,c1,c2,c3,c4,c5,c6,c7⟩,f0,f1,f2,f3,f4,f5,f6,f7⟩:=zaa A2.out.2.1
 go_wp2_with fail
 with_reducible refine (zb3 ⟨k,u,f,q,s,m,n,t⟩ true _ S0.out A2.out.parts).mono ?_
 rintro e w3 ⟨rfl,hb⟩
 have A3:=hid (A2.out.on hb)
 clear hb A2
 clear c0 c1 c2 c3 c4 c5 c6 c7 f0 f1 f2 f3 f4 f5 f6 f7
 obtain ⟨⟨c0,c1,c2,c3,c4,c5,c6,c7⟩,f0,f1,f2,f3,f4,f5,f6,f7⟩:=zaa A3.out.2.1
 go_wp2_with fail
 have D:=hid A3.out.drew
 have HLA:Hid ((l1 ++ zar un 8).length≤1000009):=hid (by have h0:=HL1.out;rw [List.length_append,zbt];omega)
 go_region_held3 (fun w'=>w'.cell? ⟨w.heap.size,1,none⟩=some (.int .u64 u)∧w'.cell? ⟨w.heap.size,2,none⟩=some (.string f))
  (first | exact A3.out.two | exact D.out.two | exact D4.out.two | exact D5.out.two)
  (first
   | (go_at_call 238;(with_reducible refine (zbJ base g l1 un _ _ D.out.oat HUN.out b2 (by have:=HL1.out;omega)).mono ?_);rintro en wa ⟨⟨rfl,ho4,hb4⟩,hs4⟩;have D4:=hid (D.out.put ho4 hb4 hs4))
   | (go_at_call 239;(with_reducible refine (zbz base g (l1 ++ zar un 8) _ f _ rfl D4.out.oat (by omega) (by have:=HLA.out;omega)).mono ?_);rintro en wb ⟨⟨rfl,ho5,hb5⟩,hs5⟩;have D5:=hid (D4.out.put ho5 hb5 hs5)))
 rename_i hHeld
 clear hHeld ho4 hb4 hs4 ho5 hb5 hs5 D D4 A3
 obtain ⟨l2,hl2⟩:∃x,((l1 ++ zar un 8) ++ zae f.size) ++ zaw f=x:=⟨_,rfl⟩
 have HL2:Hid (l2.length≤1000083):=hid (by rw [←hl2];have h0:=HLA.out;have h1:=zah (show f.size<18446744073709551616 by omega);rw [List.length_append,List.length_append,zaR];omega)
 rw [hl2] at D5
 have HE2:=hid hl2
 clear hl2
 clear c0 c1 c2 c3 c4 c5 c6 c7 f0 f1 f2 f3 f4 f5 f6 f7
 obtain ⟨⟨c0,c1,c2,c3,c4,c5,c6,c7⟩,f0,f1,f2,f3,f4,f5,f6,f7⟩:=zaa D5.out.2.1
 go_wp2_with fail
 with_reducible refine (zb7 ⟨k,u,f,q,s,m,n,t⟩ true _ S1.out D5.out.parts).mono ?_
 rintro e w4 ⟨rfl,hb⟩
 have A4:=hid (D5.out.on hb)
 clear hb D5
 clear c0 c1 c2 c3 c4 c5 c6 c7 f0 f1 f2 f3 f4 f5 f6 f7
 obtain ⟨⟨c0,c1,c2,c3,c4,c5,c6,c7⟩,f0,f1,f2,f3,f4,f5,f6,f7⟩:=zaa A4.out.2.1
 go_wp2_with fail
 with_reducible refine (zaz base g l2 qn _ _ A4.out.oat HQN.out (by omega) (by have:=HL2.out;omega)).mono ?_
 rintro en w5 ⟨⟨rfl,ho,hb⟩,hs⟩
 have A5:=hid (A4.out.put ho hb hs)
 clear ho hb hs A4
 obtain ⟨l3,hl3⟩:∃x,l2 ++ zae qn=x:=⟨_,rfl⟩
 have HL3:Hid (l3.length≤1000093):=hid (by rw [←hl3];have h0:=HL2.out;have h1:=zah (show qn<18446744073709551616 by omega);rw [List.length_append];omega)
 rw [hl3] at A5
 have HE3:=hid hl3
 clear hl3
 clear c0 c1 c2 c3 c4 c5 c6 c7 f0 f1 f2 f3 f4 f5 f6 f7
 obtain ⟨⟨c0,c1,c2,c3,c4,c5,c6,c7⟩,f0,f1,f2,f3,f4,f5,f6,f7⟩:=zaa A5.out.2.1
 go_wp2_with fail
 with_reducible refine (zb5 ⟨k,u,f,q,s,m,n,t⟩ false _ S2.out A5.out.parts).mono ?_
 rintro e w6 ⟨rfl,hb⟩
 have A6:=hid (A5.out.on hb)
 clear hb A5
 clear c0 c1 c2 c3 c4 c5 c6 c7 f0 f1 f2 f3 f4 f5 f6 f7
 obtain ⟨⟨c0,c1,c2,c3,c4,c5,c6,c7⟩,f0,f1,f2,f3,f4,f5,f6,f7⟩:=zaa A6.out.2.1
 go_wp2_with fail
 with_reducible refine (zca ⟨k,u,f,q,s,m,n,t⟩ false _ S3.out A6.out.parts).mono ?_
 rintro e w7 ⟨rfl,hb⟩
 have A7:=hid (A6.out.on hb)
 clear hb A6
 clear c0 c1 c2 c3 c4 c5 c6 c7 f0 f1 f2 f3 f4 f5 f6 f7
 obtain ⟨⟨c0,c1,c2,c3,c4,c5,c6,c7⟩,f0,f1,f2,f3,f4,f5,f6,f7⟩:=zaa A7.out.2.1
 go_wp2_with fail
 with_reducible refine (zbT ⟨k,u,f,q,s,m,n,t⟩ false _ S4.out A7.out.parts).mono ?_
 rintro e w8 ⟨rfl,hb⟩
 have A8:=hid (A7.out.on hb)
 clear hb A7
 clear c0 c1 c2 c3 c4 c5 c6 c7 f0 f1 f2 f3 f4 f5 f6 f7
 obtain ⟨⟨c0,c1,c2,c3,c4,c5,c6,c7⟩,f0,f1,f2,f3,f4,f5,f6,f7⟩:=zaa A8.out.2.1
 go_wp2_with fail
 with_reducible refine (zb4 ⟨k,u,f,q,s,m,n,t⟩ false _ S5.out A8.out.parts).mono ?_
 rintro e w9 ⟨rfl,hb⟩
 have A9:=hid (A8.out.on hb)
 clear hb A8
 clear c0 c1 c2 c3 c4 c5 c6 c7 f0 f1 f2 f3 f4 f5 f6 f7
 obtain ⟨⟨c0,c1,c2,c3,c4,c5,c6,c7⟩,f0,f1,f2,f3,f4,f5,f6,f7⟩:=zaa A9.out.2.1
 have R:Hid (zaB w9 base g (lb ++ enc ⟨k,u,f,q,s,m,n,t⟩)∧Below base w w9∧za0 g w w9):=hid ⟨by rw [E.out,HE1.out,HE2.out,HE3.out];exact A9.out.1,A9.out.bel,A9.out.stays⟩
 clear A9
 go_wp2
 go_end0
 exact ⟨rfl,R.out⟩
theorem zvz (base g:Nat) (lb:List Nat) (k u:Int) (f:ByteArray) (q:Int) (s:ByteArray) (m n t:Int) (w:World) (hP:zad w) (hg:0<base) (hO:zaB w base g lb) (hlb:lb.length≤1000000) (hs:Sig k true true false false false true) (hr:zaF ⟨k,u,f,q,s,m,n,t⟩=true)
  (hk:0≤k∧k≤8) (hu:0≤u∧u<18446744073709551616) (hq:0≤q∧q<18446744073709551616) (hn:0≤n∧n<18446744073709551616) (hm:0≤m∧m≤2) (ht:0≤t∧t≤1099511627776) (hf:f.size≤64) (hp:s.size≤64) :
  Calls Tryz.prog 237 #[val ⟨k,u,f,q,s,m,n,t⟩,.pointer (some ⟨g,0,none⟩)] w fun e w'=>e=.returned (.tuple #[])∧zaB w' base g (lb ++ enc ⟨k,u,f,q,s,m,n,t⟩)∧Below base w w'∧za0 g w w':=by
 obtain ⟨s0,s1,s2,s3,s4,s5⟩:=hs
 have S0:=hid s0
 have S1:=hid s1
 have S2:=hid s2
 have S3:=hid s3
 have S4:=hid s4
 have S5:=hid s5
 have HR:=hid hr
 have HL0:Hid (lb.length≤1000000):=hid hlb
 have A0:=hid (zcu.start hO hP hg ⟨k,u,f,q,s,m,n,t⟩)
 obtain ⟨kn,hkn⟩:∃kn:Nat,k=(kn:Int):=⟨k.toNat,by omega⟩
 obtain ⟨un,hun⟩:∃kn:Nat,u=(kn:Int):=⟨u.toNat,by omega⟩
 obtain ⟨qn,hqn⟩:∃kn:Nat,q=(kn:Int):=⟨q.toNat,by omega⟩
 obtain ⟨mn,hmn⟩:∃kn:Nat,m=(kn:Int):=⟨m.toNat,by omega⟩
 obtain ⟨nn,hnn⟩:∃kn:Nat,n=(kn:Int):=⟨n.toNat,by omega⟩
 obtain ⟨tn,htn⟩:∃kn:Nat,t=(kn:Int):=⟨t.toNat,by omega⟩
 have b1:kn≤8:=by omega
 have b2:un<18446744073709551616:=by omega
 have b3:qn<18446744073709551616:=by omega
 have b4:mn≤2:=by omega
 have b5:nn<18446744073709551616:=by omega
 have b6:tn≤1099511627776:=by omega
 have W1:IntKind.u8.wrap k=k:=by rw [IntKind.wrap_u8];omega
 have W2:IntKind.u8.wrap m=m:=by rw [IntKind.wrap_u8];omega
 have W3:IntKind.u64.wrap t=t:=by rw [IntKind.wrap_u64];omega
 have M1:k % 256=k:=by omega
 have M2:m % 256=m:=by omega
 have M3:t % 18446744073709551616=t:=by omega
 have HKN:=hid hkn
 have HUN:=hid hun
 have HQN:=hid hqn
 have HMN:=hid hmn
 have HNN:=hid hnn
 have HTN:=hid htn
 have E:Hid (lb ++ enc ⟨k,u,f,q,s,m,n,t⟩=((((((lb ++ [kn]) ++ zar un 8) ++ zae f.size) ++ zaw f) ++ zae qn) ++ zae tn)):=hid (by simp only [enc,e0,e1,e2,e3,e4,e5,zdJ,s0,s1,s2,s3,s4,s5];simp [hkn,hun,hqn,hmn,hnn,htn])
 have hf':f.size≤4611686018427387903:=by omega
 have hp':s.size≤4611686018427387903:=by omega
 clear s0 s1 s2 s3 s4 s5 hr hP hO hg hlb hkn hun hqn hmn hnn htn hk hu hq hn hm ht
 go_enter Tryz.func237,Tryz.ntmps237
 go_wp2_with fail
 with_reducible refine (zaJ ⟨k,u,f,q,s,m,n,t⟩ _ A0.out.parts hf' hp').mono ?_
 rw [HR.out]
 rintro e w1 ⟨rfl,hb⟩
 have A1:=hid (A0.out.on hb)
 clear hb A0
 obtain ⟨⟨c0,c1,c2,c3,c4,c5,c6,c7⟩,f0,f1,f2,f3,f4,f5,f6,f7⟩:=zaa A1.out.2.1
 go_wp2_with fail
 with_reducible refine (zaT base g lb kn _ _ A1.out.oat HKN.out (by have:=HL0.out;omega)).mono ?_
 rintro en w2 ⟨⟨rfl,ho,hb⟩,hs⟩
 have A2:=hid (A1.out.put ho hb hs)
 clear ho hb hs A1
 obtain ⟨l1,hl1⟩:∃x,lb ++ [kn]=x:=⟨_,rfl⟩
 have HL1:Hid (l1.length≤1000001):=hid (by rw [←hl1];have h0:=HL0.out;rw [List.length_append,List.length_singleton];omega)
 rw [hl1] at A2
 have HE1:=hid hl1
 clear hl1
 clear c0 c1 c2 c3 c4 c5 c6 c7 f0 f1 f2 f3 f4 f5 f6 f7
 obtain ⟨⟨c0,c1,c2,c3,c4,c5,c6,c7⟩,f0,f1,f2,f3,f4,f5,f6,f7⟩:=zaa A2.out.2.1
 go_wp2_with fail
 with_reducible refine (zb3 ⟨k,u,f,q,s,m,n,t⟩ true _ S0.out A2.out.parts).mono ?_
 rintro e w3 ⟨rfl,hb⟩
 have A3:=hid (A2.out.on hb)
 clear hb A2
 clear c0 c1 c2 c3 c4 c5 c6 c7 f0 f1 f2 f3 f4 f5 f6 f7
 obtain ⟨⟨c0,c1,c2,c3,c4,c5,c6,c7⟩,f0,f1,f2,f3,f4,f5,f6,f7⟩:=zaa A3.out.2.1
 go_wp2_with fail
 have D:=hid A3.out.drew
 have HLA:Hid ((l1 ++ zar un 8).length≤1000009):=hid (by have h0:=HL1.out;rw [List.length_append,zbt];omega)
 go_region_held3 (fun w'=>w'.cell? ⟨w.heap.size,1,none⟩=some (.int .u64 u)∧w'.cell? ⟨w.heap.size,2,none⟩=some (.string f))
  (first | exact A3.out.two | exact D.out.two | exact D4.out.two | exact D5.out.two)
  (first
   | (go_at_call 238;(with_reducible refine (zbJ base g l1 un _ _ D.out.oat HUN.out b2 (by have:=HL1.out;omega)).mono ?_);rintro en wa ⟨⟨rfl,ho4,hb4⟩,hs4⟩;have D4:=hid (D.out.put ho4 hb4 hs4))
   | (go_at_call 239;(with_reducible refine (zbz base g (l1 ++ zar un 8) _ f _ rfl D4.out.oat (by omega) (by have:=HLA.out;omega)).mono ?_);rintro en wb ⟨⟨rfl,ho5,hb5⟩,hs5⟩;have D5:=hid (D4.out.put ho5 hb5 hs5)))
 rename_i hHeld
 clear hHeld ho4 hb4 hs4 ho5 hb5 hs5 D D4 A3
 obtain ⟨l2,hl2⟩:∃x,((l1 ++ zar un 8) ++ zae f.size) ++ zaw f=x:=⟨_,rfl⟩
 have HL2:Hid (l2.length≤1000083):=hid (by rw [←hl2];have h0:=HLA.out;have h1:=zah (show f.size<18446744073709551616 by omega);rw [List.length_append,List.length_append,zaR];omega)
 rw [hl2] at D5
 have HE2:=hid hl2
 clear hl2
 clear c0 c1 c2 c3 c4 c5 c6 c7 f0 f1 f2 f3 f4 f5 f6 f7
 obtain ⟨⟨c0,c1,c2,c3,c4,c5,c6,c7⟩,f0,f1,f2,f3,f4,f5,f6,f7⟩:=zaa D5.out.2.1
 go_wp2_with fail
 with_reducible refine (zb7 ⟨k,u,f,q,s,m,n,t⟩ true _ S1.out D5.out.parts).mono ?_
 rintro e w4 ⟨rfl,hb⟩
 have A4:=hid (D5.out.on hb)
 clear hb D5
 clear c0 c1 c2 c3 c4 c5 c6 c7 f0 f1 f2 f3 f4 f5 f6 f7
 obtain ⟨⟨c0,c1,c2,c3,c4,c5,c6,c7⟩,f0,f1,f2,f3,f4,f5,f6,f7⟩:=zaa A4.out.2.1
 go_wp2_with fail
 with_reducible refine (zaz base g l2 qn _ _ A4.out.oat HQN.out (by omega) (by have:=HL2.out;omega)).mono ?_
 rintro en w5 ⟨⟨rfl,ho,hb⟩,hs⟩
 have A5:=hid (A4.out.put ho hb hs)
 clear ho hb hs A4
 obtain ⟨l3,hl3⟩:∃x,l2 ++ zae qn=x:=⟨_,rfl⟩
 have HL3:Hid (l3.length≤1000093):=hid (by rw [←hl3];have h0:=HL2.out;have h1:=zah (show qn<18446744073709551616 by omega);rw [List.length_append];omega)
 rw [hl3] at A5
 have HE3:=hid hl3
 clear hl3
 clear c0 c1 c2 c3 c4 c5 c6 c7 f0 f1 f2 f3 f4 f5 f6 f7
 obtain ⟨⟨c0,c1,c2,c3,c4,c5,c6,c7⟩,f0,f1,f2,f3,f4,f5,f6,f7⟩:=zaa A5.out.2.1
 go_wp2_with fail
 with_reducible refine (zb5 ⟨k,u,f,q,s,m,n,t⟩ false _ S2.out A5.out.parts).mono ?_
 rintro e w6 ⟨rfl,hb⟩
 have A6:=hid (A5.out.on hb)
 clear hb A5
 clear c0 c1 c2 c3 c4 c5 c6 c7 f0 f1 f2 f3 f4 f5 f6 f7
 obtain ⟨⟨c0,c1,c2,c3,c4,c5,c6,c7⟩,f0,f1,f2,f3,f4,f5,f6,f7⟩:=zaa A6.out.2.1
 go_wp2_with fail
 with_reducible refine (zca ⟨k,u,f,q,s,m,n,t⟩ false _ S3.out A6.out.parts).mono ?_
 rintro e w7 ⟨rfl,hb⟩
 have A7:=hid (A6.out.on hb)
 clear hb A6
 clear c0 c1 c2 c3 c4 c5 c6 c7 f0 f1 f2 f3 f4 f5 f6 f7
 obtain ⟨⟨c0,c1,c2,c3,c4,c5,c6,c7⟩,f0,f1,f2,f3,f4,f5,f6,f7⟩:=zaa A7.out.2.1
 go_wp2_with fail
 with_reducible refine (zbT ⟨k,u,f,q,s,m,n,t⟩ false _ S4.out A7.out.parts).mono ?_
 rintro e w8 ⟨rfl,hb⟩
 have A8:=hid (A7.out.on hb)
 clear hb A7
 clear c0 c1 c2 c3 c4 c5 c6 c7 f0 f1 f2 f3 f4 f5 f6 f7
 obtain ⟨⟨c0,c1,c2,c3,c4,c5,c6,c7⟩,f0,f1,f2,f3,f4,f5,f6,f7⟩:=zaa A8.out.2.1
 go_wp2_with fail
 with_reducible refine (zb4 ⟨k,u,f,q,s,m,n,t⟩ true _ S5.out A8.out.parts).mono ?_
 rintro e w9 ⟨rfl,hb⟩
 have A9:=hid (A8.out.on hb)
 clear hb A8
 clear c0 c1 c2 c3 c4 c5 c6 c7 f0 f1 f2 f3 f4 f5 f6 f7
 obtain ⟨⟨c0,c1,c2,c3,c4,c5,c6,c7⟩,f0,f1,f2,f3,f4,f5,f6,f7⟩:=zaa A9.out.2.1
 go_wp2_with fail
 with_reducible refine (zaz base g l3 tn _ _ A9.out.oat HTN.out (by omega) (by have:=HL3.out;omega)).mono ?_
 rintro en w10 ⟨⟨rfl,ho,hb⟩,hs⟩
 have A10:=hid (A9.out.put ho hb hs)
 clear ho hb hs A9
 obtain ⟨l4,hl4⟩:∃x,l3 ++ zae tn=x:=⟨_,rfl⟩
 have HL4:Hid (l4.length≤1000103):=hid (by rw [←hl4];have h0:=HL3.out;have h1:=zah (show tn<18446744073709551616 by omega);rw [List.length_append];omega)
 rw [hl4] at A10
 have HE4:=hid hl4
 clear hl4
 clear c0 c1 c2 c3 c4 c5 c6 c7 f0 f1 f2 f3 f4 f5 f6 f7
 obtain ⟨⟨c0,c1,c2,c3,c4,c5,c6,c7⟩,f0,f1,f2,f3,f4,f5,f6,f7⟩:=zaa A10.out.2.1
 have R:Hid (zaB w10 base g (lb ++ enc ⟨k,u,f,q,s,m,n,t⟩)∧Below base w w10∧za0 g w w10):=hid ⟨by rw [E.out,HE1.out,HE2.out,HE3.out,HE4.out];exact A10.out.1,A10.out.bel,A10.out.stays⟩
 clear A10
 go_wp2
 go_end0
 exact ⟨rfl,R.out⟩
theorem zu0 (base g:Nat) (lb:List Nat) (k u:Int) (f:ByteArray) (q:Int) (s:ByteArray) (m n t:Int) (w:World) (hP:zad w) (hg:0<base) (hO:zaB w base g lb) (hlb:lb.length≤1000000) (hs:Sig k true true true true false false) (hr:zaF ⟨k,u,f,q,s,m,n,t⟩=true)
  (hk:0≤k∧k≤8) (hu:0≤u∧u<18446744073709551616) (hq:0≤q∧q<18446744073709551616) (hn:0≤n∧n<18446744073709551616) (hm:0≤m∧m≤2) (ht:0≤t∧t≤1099511627776) (hf:f.size≤64) (hp:s.size≤64) :
  Calls Tryz.prog 237 #[val ⟨k,u,f,q,s,m,n,t⟩,.pointer (some ⟨g,0,none⟩)] w fun e w'=>e=.returned (.tuple #[])∧zaB w' base g (lb ++ enc ⟨k,u,f,q,s,m,n,t⟩)∧Below base w w'∧za0 g w w':=by
 obtain ⟨s0,s1,s2,s3,s4,s5⟩:=hs
 have S0:=hid s0
 have S1:=hid s1
 have S2:=hid s2
 have S3:=hid s3
 have S4:=hid s4
 have S5:=hid s5
 have HR:=hid hr
 have HL0:Hid (lb.length≤1000000):=hid hlb
 have A0:=hid (zcu.start hO hP hg ⟨k,u,f,q,s,m,n,t⟩)
 obtain ⟨kn,hkn⟩:∃kn:Nat,k=(kn:Int):=⟨k.toNat,by omega⟩
 obtain ⟨un,hun⟩:∃kn:Nat,u=(kn:Int):=⟨u.toNat,by omega⟩
 obtain ⟨qn,hqn⟩:∃kn:Nat,q=(kn:Int):=⟨q.toNat,by omega⟩
 obtain ⟨mn,hmn⟩:∃kn:Nat,m=(kn:Int):=⟨m.toNat,by omega⟩
 obtain ⟨nn,hnn⟩:∃kn:Nat,n=(kn:Int):=⟨n.toNat,by omega⟩
 obtain ⟨tn,htn⟩:∃kn:Nat,t=(kn:Int):=⟨t.toNat,by omega⟩
 have b1:kn≤8:=by omega
 have b2:un<18446744073709551616:=by omega
 have b3:qn<18446744073709551616:=by omega
 have b4:mn≤2:=by omega
 have b5:nn<18446744073709551616:=by omega
 have b6:tn≤1099511627776:=by omega
 have W1:IntKind.u8.wrap k=k:=by rw [IntKind.wrap_u8];omega
 have W2:IntKind.u8.wrap m=m:=by rw [IntKind.wrap_u8];omega
 have W3:IntKind.u64.wrap t=t:=by rw [IntKind.wrap_u64];omega
 have M1:k % 256=k:=by omega
 have M2:m % 256=m:=by omega
 have M3:t % 18446744073709551616=t:=by omega
 have HKN:=hid hkn
 have HUN:=hid hun
 have HQN:=hid hqn
 have HMN:=hid hmn
 have HNN:=hid hnn
 have HTN:=hid htn
 have E:Hid (lb ++ enc ⟨k,u,f,q,s,m,n,t⟩=((((((((lb ++ [kn]) ++ zar un 8) ++ zae f.size) ++ zaw f) ++ zae qn) ++ zae s.size) ++ zaw s) ++ [mn])):=hid (by simp only [enc,e0,e1,e2,e3,e4,e5,zdJ,s0,s1,s2,s3,s4,s5];simp [hkn,hun,hqn,hmn,hnn,htn])
 have hf':f.size≤4611686018427387903:=by omega
 have hp':s.size≤4611686018427387903:=by omega
 clear s0 s1 s2 s3 s4 s5 hr hP hO hg hlb hkn hun hqn hmn hnn htn hk hu hq hn hm ht
 go_enter Tryz.func237,Tryz.ntmps237
 go_wp2_with fail
 with_reducible refine (zaJ ⟨k,u,f,q,s,m,n,t⟩ _ A0.out.parts hf' hp').mono ?_
 rw [HR.out]
 rintro e w1 ⟨rfl,hb⟩
 have A1:=hid (A0.out.on hb)
 clear hb A0
 obtain ⟨⟨c0,c1,c2,c3,c4,c5,c6,c7⟩,f0,f1,f2,f3,f4,f5,f6,f7⟩:=zaa A1.out.2.1
 go_wp2_with fail
 with_reducible refine (zaT base g lb kn _ _ A1.out.oat HKN.out (by have:=HL0.out;omega)).mono ?_
 rintro en w2 ⟨⟨rfl,ho,hb⟩,hs⟩
 have A2:=hid (A1.out.put ho hb hs)
 clear ho hb hs A1
 obtain ⟨l1,hl1⟩:∃x,lb ++ [kn]=x:=⟨_,rfl⟩
 have HL1:Hid (l1.length≤1000001):=hid (by rw [←hl1];have h0:=HL0.out;rw [List.length_append,List.length_singleton];omega)
 rw [hl1] at A2
 have HE1:=hid hl1
 clear hl1
 clear c0 c1 c2 c3 c4 c5 c6 c7 f0 f1 f2 f3 f4 f5 f6 f7
 obtain ⟨⟨c0,c1,c2,c3,c4,c5,c6,c7⟩,f0,f1,f2,f3,f4,f5,f6,f7⟩:=zaa A2.out.2.1
 go_wp2_with fail
 with_reducible refine (zb3 ⟨k,u,f,q,s,m,n,t⟩ true _ S0.out A2.out.parts).mono ?_
 rintro e w3 ⟨rfl,hb⟩
 have A3:=hid (A2.out.on hb)
 clear hb A2
 clear c0 c1 c2 c3 c4 c5 c6 c7 f0 f1 f2 f3 f4 f5 f6 f7
 obtain ⟨⟨c0,c1,c2,c3,c4,c5,c6,c7⟩,f0,f1,f2,f3,f4,f5,f6,f7⟩:=zaa A3.out.2.1
 go_wp2_with fail
 have D:=hid A3.out.drew
 have HLA:Hid ((l1 ++ zar un 8).length≤1000009):=hid (by have h0:=HL1.out;rw [List.length_append,zbt];omega)
 go_region_held3 (fun w'=>w'.cell? ⟨w.heap.size,1,none⟩=some (.int .u64 u)∧w'.cell? ⟨w.heap.size,2,none⟩=some (.string f))
  (first | exact A3.out.two | exact D.out.two | exact D4.out.two | exact D5.out.two)
  (first
   | (go_at_call 238;(with_reducible refine (zbJ base g l1 un _ _ D.out.oat HUN.out b2 (by have:=HL1.out;omega)).mono ?_);rintro en wa ⟨⟨rfl,ho4,hb4⟩,hs4⟩;have D4:=hid (D.out.put ho4 hb4 hs4))
   | (go_at_call 239;(with_reducible refine (zbz base g (l1 ++ zar un 8) _ f _ rfl D4.out.oat (by omega) (by have:=HLA.out;omega)).mono ?_);rintro en wb ⟨⟨rfl,ho5,hb5⟩,hs5⟩;have D5:=hid (D4.out.put ho5 hb5 hs5)))
 rename_i hHeld
 clear hHeld ho4 hb4 hs4 ho5 hb5 hs5 D D4 A3
 obtain ⟨l2,hl2⟩:∃x,((l1 ++ zar un 8) ++ zae f.size) ++ zaw f=x:=⟨_,rfl⟩
 have HL2:Hid (l2.length≤1000083):=hid (by rw [←hl2];have h0:=HLA.out;have h1:=zah (show f.size<18446744073709551616 by omega);rw [List.length_append,List.length_append,zaR];omega)
 rw [hl2] at D5
 have HE2:=hid hl2
 clear hl2
 clear c0 c1 c2 c3 c4 c5 c6 c7 f0 f1 f2 f3 f4 f5 f6 f7
 obtain ⟨⟨c0,c1,c2,c3,c4,c5,c6,c7⟩,f0,f1,f2,f3,f4,f5,f6,f7⟩:=zaa D5.out.2.1
 go_wp2_with fail
 with_reducible refine (zb7 ⟨k,u,f,q,s,m,n,t⟩ true _ S1.out D5.out.parts).mono ?_
 rintro e w4 ⟨rfl,hb⟩
 have A4:=hid (D5.out.on hb)
 clear hb D5
 clear c0 c1 c2 c3 c4 c5 c6 c7 f0 f1 f2 f3 f4 f5 f6 f7
 obtain ⟨⟨c0,c1,c2,c3,c4,c5,c6,c7⟩,f0,f1,f2,f3,f4,f5,f6,f7⟩:=zaa A4.out.2.1
 go_wp2_with fail
 with_reducible refine (zaz base g l2 qn _ _ A4.out.oat HQN.out (by omega) (by have:=HL2.out;omega)).mono ?_
 rintro en w5 ⟨⟨rfl,ho,hb⟩,hs⟩
 have A5:=hid (A4.out.put ho hb hs)
 clear ho hb hs A4
 obtain ⟨l3,hl3⟩:∃x,l2 ++ zae qn=x:=⟨_,rfl⟩
 have HL3:Hid (l3.length≤1000093):=hid (by rw [←hl3];have h0:=HL2.out;have h1:=zah (show qn<18446744073709551616 by omega);rw [List.length_append];omega)
 rw [hl3] at A5
 have HE3:=hid hl3
 clear hl3
 clear c0 c1 c2 c3 c4 c5 c6 c7 f0 f1 f2 f3 f4 f5 f6 f7
 obtain ⟨⟨c0,c1,c2,c3,c4,c5,c6,c7⟩,f0,f1,f2,f3,f4,f5,f6,f7⟩:=zaa A5.out.2.1
 go_wp2_with fail
 with_reducible refine (zb5 ⟨k,u,f,q,s,m,n,t⟩ true _ S2.out A5.out.parts).mono ?_
 rintro e w6 ⟨rfl,hb⟩
 have A6:=hid (A5.out.on hb)
 clear hb A5
 clear c0 c1 c2 c3 c4 c5 c6 c7 f0 f1 f2 f3 f4 f5 f6 f7
 obtain ⟨⟨c0,c1,c2,c3,c4,c5,c6,c7⟩,f0,f1,f2,f3,f4,f5,f6,f7⟩:=zaa A6.out.2.1
 go_wp2_with fail
 with_reducible refine (zbz base g l3 _ s _ rfl A6.out.oat (by omega) (by have:=HL3.out;omega)).mono ?_
 rintro en w7 ⟨⟨rfl,ho,hb⟩,hs⟩
 have A7:=hid (A6.out.put ho hb hs)
 clear ho hb hs A6
 obtain ⟨l4,hl4⟩:∃x,(l3 ++ zae s.size) ++ zaw s=x:=⟨_,rfl⟩
 have HL4:Hid (l4.length≤1000167):=hid (by rw [←hl4];have h0:=HL3.out;have h1:=zah (show s.size<18446744073709551616 by omega);rw [List.length_append,List.length_append,zaR];omega)
 rw [hl4] at A7
 have HE4:=hid hl4
 clear hl4
 clear c0 c1 c2 c3 c4 c5 c6 c7 f0 f1 f2 f3 f4 f5 f6 f7
 obtain ⟨⟨c0,c1,c2,c3,c4,c5,c6,c7⟩,f0,f1,f2,f3,f4,f5,f6,f7⟩:=zaa A7.out.2.1
 go_wp2_with fail
 with_reducible refine (zca ⟨k,u,f,q,s,m,n,t⟩ true _ S3.out A7.out.parts).mono ?_
 rintro e w8 ⟨rfl,hb⟩
 have A8:=hid (A7.out.on hb)
 clear hb A7
 clear c0 c1 c2 c3 c4 c5 c6 c7 f0 f1 f2 f3 f4 f5 f6 f7
 obtain ⟨⟨c0,c1,c2,c3,c4,c5,c6,c7⟩,f0,f1,f2,f3,f4,f5,f6,f7⟩:=zaa A8.out.2.1
 go_wp2_with fail
 with_reducible refine (zaT base g l4 mn _ _ A8.out.oat HMN.out (by have:=HL4.out;omega)).mono ?_
 rintro en w9 ⟨⟨rfl,ho,hb⟩,hs⟩
 have A9:=hid (A8.out.put ho hb hs)
 clear ho hb hs A8
 obtain ⟨l5,hl5⟩:∃x,l4 ++ [mn]=x:=⟨_,rfl⟩
 have HL5:Hid (l5.length≤1000168):=hid (by rw [←hl5];have h0:=HL4.out;rw [List.length_append,List.length_singleton];omega)
 rw [hl5] at A9
 have HE5:=hid hl5
 clear hl5
 clear c0 c1 c2 c3 c4 c5 c6 c7 f0 f1 f2 f3 f4 f5 f6 f7
 obtain ⟨⟨c0,c1,c2,c3,c4,c5,c6,c7⟩,f0,f1,f2,f3,f4,f5,f6,f7⟩:=zaa A9.out.2.1
 go_wp2_with fail
 with_reducible refine (zbT ⟨k,u,f,q,s,m,n,t⟩ false _ S4.out A9.out.parts).mono ?_
 rintro e w10 ⟨rfl,hb⟩
 have A10:=hid (A9.out.on hb)
 clear hb A9
 clear c0 c1 c2 c3 c4 c5 c6 c7 f0 f1 f2 f3 f4 f5 f6 f7
 obtain ⟨⟨c0,c1,c2,c3,c4,c5,c6,c7⟩,f0,f1,f2,f3,f4,f5,f6,f7⟩:=zaa A10.out.2.1
 go_wp2_with fail
 with_reducible refine (zb4 ⟨k,u,f,q,s,m,n,t⟩ false _ S5.out A10.out.parts).mono ?_
 rintro e w11 ⟨rfl,hb⟩
 have A11:=hid (A10.out.on hb)
 clear hb A10
 clear c0 c1 c2 c3 c4 c5 c6 c7 f0 f1 f2 f3 f4 f5 f6 f7
 obtain ⟨⟨c0,c1,c2,c3,c4,c5,c6,c7⟩,f0,f1,f2,f3,f4,f5,f6,f7⟩:=zaa A11.out.2.1
 have R:Hid (zaB w11 base g (lb ++ enc ⟨k,u,f,q,s,m,n,t⟩)∧Below base w w11∧za0 g w w11):=hid ⟨by rw [E.out,HE1.out,HE2.out,HE3.out,HE4.out,HE5.out];exact A11.out.1,A11.out.bel,A11.out.stays⟩
 clear A11
 go_wp2
 go_end0
 exact ⟨rfl,R.out⟩
theorem zva (base g:Nat) (lb:List Nat) (k u:Int) (f:ByteArray) (q:Int) (s:ByteArray) (m n t:Int) (w:World) (hP:zad w) (hg:0<base) (hO:zaB w base g lb) (hlb:lb.length≤1000000) (hs:Sig k true true true false false false) (hr:zaF ⟨k,u,f,q,s,m,n,t⟩=true)
  (hk:0≤k∧k≤8) (hu:0≤u∧u<18446744073709551616) (hq:0≤q∧q<18446744073709551616) (hn:0≤n∧n<18446744073709551616) (hm:0≤m∧m≤2) (ht:0≤t∧t≤1099511627776) (hf:f.size≤64) (hp:s.size≤64) :
  Calls Tryz.prog 237 #[val ⟨k,u,f,q,s,m,n,t⟩,.pointer (some ⟨g,0,none⟩)] w fun e w'=>e=.returned (.tuple #[])∧zaB w' base g (lb ++ enc ⟨k,u,f,q,s,m,n,t⟩)∧Below base w w'∧za0 g w w':=by
 obtain ⟨s0,s1,s2,s3,s4,s5⟩:=hs
 have S0:=hid s0
 have S1:=hid s1
 have S2:=hid s2
 have S3:=hid s3
 have S4:=hid s4
 have S5:=hid s5
 have HR:=hid hr
 have HL0:Hid (lb.length≤1000000):=hid hlb
 have A0:=hid (zcu.start hO hP hg ⟨k,u,f,q,s,m,n,t⟩)
 obtain ⟨kn,hkn⟩:∃kn:Nat,k=(kn:Int):=⟨k.toNat,by omega⟩
 obtain ⟨un,hun⟩:∃kn:Nat,u=(kn:Int):=⟨u.toNat,by omega⟩
 obtain ⟨qn,hqn⟩:∃kn:Nat,q=(kn:Int):=⟨q.toNat,by omega⟩
 obtain ⟨mn,hmn⟩:∃kn:Nat,m=(kn:Int):=⟨m.toNat,by omega⟩
 obtain ⟨nn,hnn⟩:∃kn:Nat,n=(kn:Int):=⟨n.toNat,by omega⟩
 obtain ⟨tn,htn⟩:∃kn:Nat,t=(kn:Int):=⟨t.toNat,by omega⟩
 have b1:kn≤8:=by omega
 have b2:un<18446744073709551616:=by omega
 have b3:qn<18446744073709551616:=by omega
 have b4:mn≤2:=by omega
 have b5:nn<18446744073709551616:=by omega
 have b6:tn≤1099511627776:=by omega
 have W1:IntKind.u8.wrap k=k:=by rw [IntKind.wrap_u8];omega
 have W2:IntKind.u8.wrap m=m:=by rw [IntKind.wrap_u8];omega
 have W3:IntKind.u64.wrap t=t:=by rw [IntKind.wrap_u64];omega
 have M1:k % 256=k:=by omega
 have M2:m % 256=m:=by omega
 have M3:t % 18446744073709551616=t:=by omega
 have HKN:=hid hkn
 have HUN:=hid hun
 have HQN:=hid hqn
 have HMN:=hid hmn
 have HNN:=hid hnn
 have HTN:=hid htn
 have E:Hid (lb ++ enc ⟨k,u,f,q,s,m,n,t⟩=(((((((lb ++ [kn]) ++ zar un 8) ++ zae f.size) ++ zaw f) ++ zae qn) ++ zae s.size) ++ zaw s)):=hid (by simp only [enc,e0,e1,e2,e3,e4,e5,zdJ,s0,s1,s2,s3,s4,s5];simp [hkn,hun,hqn,hmn,hnn,htn])
 have hf':f.size≤4611686018427387903:=by omega
 have hp':s.size≤4611686018427387903:=by omega
 clear s0 s1 s2 s3 s4 s5 hr hP hO hg hlb hkn hun hqn hmn hnn htn hk hu hq hn hm ht
 go_enter Tryz.func237,Tryz.ntmps237
 go_wp2_with fail
 with_reducible refine (zaJ ⟨k,u,f,q,s,m,n,t⟩ _ A0.out.parts hf' hp').mono ?_
 rw [HR.out]
 rintro e w1 ⟨rfl,hb⟩
 have A1:=hid (A0.out.on hb)
 clear hb A0
 obtain ⟨⟨c0,c1,c2,c3,c4,c5,c6,c7⟩,f0,f1,f2,f3,f4,f5,f6,f7⟩:=zaa A1.out.2.1
 go_wp2_with fail
 with_reducible refine (zaT base g lb kn _ _ A1.out.oat HKN.out (by have:=HL0.out;omega)).mono ?_
 rintro en w2 ⟨⟨rfl,ho,hb⟩,hs⟩
 have A2:=hid (A1.out.put ho hb hs)
 clear ho hb hs A1
 obtain ⟨l1,hl1⟩:∃x,lb ++ [kn]=x:=⟨_,rfl⟩
 have HL1:Hid (l1.length≤1000001):=hid (by rw [←hl1];have h0:=HL0.out;rw [List.length_append,List.length_singleton];omega)
 rw [hl1] at A2
 have HE1:=hid hl1
 clear hl1
 clear c0 c1 c2 c3 c4 c5 c6 c7 f0 f1 f2 f3 f4 f5 f6 f7
 obtain ⟨⟨c0,c1,c2,c3,c4,c5,c6,c7⟩,f0,f1,f2,f3,f4,f5,f6,f7⟩:=zaa A2.out.2.1
 go_wp2_with fail
 with_reducible refine (zb3 ⟨k,u,f,q,s,m,n,t⟩ true _ S0.out A2.out.parts).mono ?_
 rintro e w3 ⟨rfl,hb⟩
 have A3:=hid (A2.out.on hb)
 clear hb A2
 clear c0 c1 c2 c3 c4 c5 c6 c7 f0 f1 f2 f3 f4 f5 f6 f7
 obtain ⟨⟨c0,c1,c2,c3,c4,c5,c6,c7⟩,f0,f1,f2,f3,f4,f5,f6,f7⟩:=zaa A3.out.2.1
 go_wp2_with fail
 have D:=hid A3.out.drew
 have HLA:Hid ((l1 ++ zar un 8).length≤1000009):=hid (by have h0:=HL1.out;rw [List.length_append,zbt];omega)
 go_region_held3 (fun w'=>w'.cell? ⟨w.heap.size,1,none⟩=some (.int .u64 u)∧w'.cell? ⟨w.heap.size,2,none⟩=some (.string f))
  (first | exact A3.out.two | exact D.out.two | exact D4.out.two | exact D5.out.two)
  (first
   | (go_at_call 238;(with_reducible refine (zbJ base g l1 un _ _ D.out.oat HUN.out b2 (by have:=HL1.out;omega)).mono ?_);rintro en wa ⟨⟨rfl,ho4,hb4⟩,hs4⟩;have D4:=hid (D.out.put ho4 hb4 hs4))
   | (go_at_call 239;(with_reducible refine (zbz base g (l1 ++ zar un 8) _ f _ rfl D4.out.oat (by omega) (by have:=HLA.out;omega)).mono ?_);rintro en wb ⟨⟨rfl,ho5,hb5⟩,hs5⟩;have D5:=hid (D4.out.put ho5 hb5 hs5)))
 rename_i hHeld
 clear hHeld ho4 hb4 hs4 ho5 hb5 hs5 D D4 A3
 obtain ⟨l2,hl2⟩:∃x,((l1 ++ zar un 8) ++ zae f.size) ++ zaw f=x:=⟨_,rfl⟩
 have HL2:Hid (l2.length≤1000083):=hid (by rw [←hl2];have h0:=HLA.out;have h1:=zah (show f.size<18446744073709551616 by omega);rw [List.length_append,List.length_append,zaR];omega)
 rw [hl2] at D5
 have HE2:=hid hl2
 clear hl2
 clear c0 c1 c2 c3 c4 c5 c6 c7 f0 f1 f2 f3 f4 f5 f6 f7
 obtain ⟨⟨c0,c1,c2,c3,c4,c5,c6,c7⟩,f0,f1,f2,f3,f4,f5,f6,f7⟩:=zaa D5.out.2.1
 go_wp2_with fail
 with_reducible refine (zb7 ⟨k,u,f,q,s,m,n,t⟩ true _ S1.out D5.out.parts).mono ?_
 rintro e w4 ⟨rfl,hb⟩
 have A4:=hid (D5.out.on hb)
 clear hb D5
 clear c0 c1 c2 c3 c4 c5 c6 c7 f0 f1 f2 f3 f4 f5 f6 f7
 obtain ⟨⟨c0,c1,c2,c3,c4,c5,c6,c7⟩,f0,f1,f2,f3,f4,f5,f6,f7⟩:=zaa A4.out.2.1
 go_wp2_with fail
 with_reducible refine (zaz base g l2 qn _ _ A4.out.oat HQN.out (by omega) (by have:=HL2.out;omega)).mono ?_
 rintro en w5 ⟨⟨rfl,ho,hb⟩,hs⟩
 have A5:=hid (A4.out.put ho hb hs)
 clear ho hb hs A4
 obtain ⟨l3,hl3⟩:∃x,l2 ++ zae qn=x:=⟨_,rfl⟩
 have HL3:Hid (l3.length≤1000093):=hid (by rw [←hl3];have h0:=HL2.out;have h1:=zah (show qn<18446744073709551616 by omega);rw [List.length_append];omega)
 rw [hl3] at A5
 have HE3:=hid hl3
 clear hl3
 clear c0 c1 c2 c3 c4 c5 c6 c7 f0 f1 f2 f3 f4 f5 f6 f7
 obtain ⟨⟨c0,c1,c2,c3,c4,c5,c6,c7⟩,f0,f1,f2,f3,f4,f5,f6,f7⟩:=zaa A5.out.2.1
 go_wp2_with fail
 with_reducible refine (zb5 ⟨k,u,f,q,s,m,n,t⟩ true _ S2.out A5.out.parts).mono ?_
 rintro e w6 ⟨rfl,hb⟩
 have A6:=hid (A5.out.on hb)
 clear hb A5
 clear c0 c1 c2 c3 c4 c5 c6 c7 f0 f1 f2 f3 f4 f5 f6 f7
 obtain ⟨⟨c0,c1,c2,c3,c4,c5,c6,c7⟩,f0,f1,f2,f3,f4,f5,f6,f7⟩:=zaa A6.out.2.1
 go_wp2_with fail
 with_reducible refine (zbz base g l3 _ s _ rfl A6.out.oat (by omega) (by have:=HL3.out;omega)).mono ?_
 rintro en w7 ⟨⟨rfl,ho,hb⟩,hs⟩
 have A7:=hid (A6.out.put ho hb hs)
 clear ho hb hs A6
 obtain ⟨l4,hl4⟩:∃x,(l3 ++ zae s.size) ++ zaw s=x:=⟨_,rfl⟩
 have HL4:Hid (l4.length≤1000167):=hid (by rw [←hl4];have h0:=HL3.out;have h1:=zah (show s.size<18446744073709551616 by omega);rw [List.length_append,List.length_append,zaR];omega)
 rw [hl4] at A7
 have HE4:=hid hl4
 clear hl4
 clear c0 c1 c2 c3 c4 c5 c6 c7 f0 f1 f2 f3 f4 f5 f6 f7
 obtain ⟨⟨c0,c1,c2,c3,c4,c5,c6,c7⟩,f0,f1,f2,f3,f4,f5,f6,f7⟩:=zaa A7.out.2.1
 go_wp2_with fail
 with_reducible refine (zca ⟨k,u,f,q,s,m,n,t⟩ false _ S3.out A7.out.parts).mono ?_
 rintro e w8 ⟨rfl,hb⟩
 have A8:=hid (A7.out.on hb)
 clear hb A7
 clear c0 c1 c2 c3 c4 c5 c6 c7 f0 f1 f2 f3 f4 f5 f6 f7
 obtain ⟨⟨c0,c1,c2,c3,c4,c5,c6,c7⟩,f0,f1,f2,f3,f4,f5,f6,f7⟩:=zaa A8.out.2.1
 go_wp2_with fail
 with_reducible refine (zbT ⟨k,u,f,q,s,m,n,t⟩ false _ S4.out A8.out.parts).mono ?_
 rintro e w9 ⟨rfl,hb⟩
 have A9:=hid (A8.out.on hb)
 clear hb A8
 clear c0 c1 c2 c3 c4 c5 c6 c7 f0 f1 f2 f3 f4 f5 f6 f7
 obtain ⟨⟨c0,c1,c2,c3,c4,c5,c6,c7⟩,f0,f1,f2,f3,f4,f5,f6,f7⟩:=zaa A9.out.2.1
 go_wp2_with fail
 with_reducible refine (zb4 ⟨k,u,f,q,s,m,n,t⟩ false _ S5.out A9.out.parts).mono ?_
 rintro e w10 ⟨rfl,hb⟩
 have A10:=hid (A9.out.on hb)
 clear hb A9
 clear c0 c1 c2 c3 c4 c5 c6 c7 f0 f1 f2 f3 f4 f5 f6 f7
 obtain ⟨⟨c0,c1,c2,c3,c4,c5,c6,c7⟩,f0,f1,f2,f3,f4,f5,f6,f7⟩:=zaa A10.out.2.1
 have R:Hid (zaB w10 base g (lb ++ enc ⟨k,u,f,q,s,m,n,t⟩)∧Below base w w10∧za0 g w w10):=hid ⟨by rw [E.out,HE1.out,HE2.out,HE3.out,HE4.out];exact A10.out.1,A10.out.bel,A10.out.stays⟩
 clear A10
 go_wp2
 go_end0
 exact ⟨rfl,R.out⟩
theorem zvh (base g:Nat) (lb:List Nat) (k u:Int) (f:ByteArray) (q:Int) (s:ByteArray) (m n t:Int) (w:World) (hP:zad w) (hg:0<base) (hO:zaB w base g lb) (hlb:lb.length≤1000000) (hs:Sig k true true true false true false) (hr:zaF ⟨k,u,f,q,s,m,n,t⟩=true)
  (hk:0≤k∧k≤8) (hu:0≤u∧u<18446744073709551616) (hq:0≤q∧q<18446744073709551616) (hn:0≤n∧n<18446744073709551616) (hm:0≤m∧m≤2) (ht:0≤t∧t≤1099511627776) (hf:f.size≤64) (hp:s.size≤64) :
  Calls Tryz.prog 237 #[val ⟨k,u,f,q,s,m,n,t⟩,.pointer (some ⟨g,0,none⟩)] w fun e w'=>e=.returned (.tuple #[])∧zaB w' base g (lb ++ enc ⟨k,u,f,q,s,m,n,t⟩)∧Below base w w'∧za0 g w w':=by
 obtain ⟨s0,s1,s2,s3,s4,s5⟩:=hs
 have S0:=hid s0
 have S1:=hid s1
 have S2:=hid s2
 have S3:=hid s3
 have S4:=hid s4
 have S5:=hid s5
 have HR:=hid hr
 have HL0:Hid (lb.length≤1000000):=hid hlb
 have A0:=hid (zcu.start hO hP hg ⟨k,u,f,q,s,m,n,t⟩)
 obtain ⟨kn,hkn⟩:∃kn:Nat,k=(kn:Int):=⟨k.toNat,by omega⟩
 obtain ⟨un,hun⟩:∃kn:Nat,u=(kn:Int):=⟨u.toNat,by omega⟩
 obtain ⟨qn,hqn⟩:∃kn:Nat,q=(kn:Int):=⟨q.toNat,by omega⟩
 obtain ⟨mn,hmn⟩:∃kn:Nat,m=(kn:Int):=⟨m.toNat,by omega⟩
 obtain ⟨nn,hnn⟩:∃kn:Nat,n=(kn:Int):=⟨n.toNat,by omega⟩
 obtain ⟨tn,htn⟩:∃kn:Nat,t=(kn:Int):=⟨t.toNat,by omega⟩
 have b1:kn≤8:=by omega
 have b2:un<18446744073709551616:=by omega
 have b3:qn<18446744073709551616:=by omega
 have b4:mn≤2:=by omega
 have b5:nn<18446744073709551616:=by omega
 have b6:tn≤1099511627776:=by omega
 have W1:IntKind.u8.wrap k=k:=by rw [IntKind.wrap_u8];omega
 have W2:IntKind.u8.wrap m=m:=by rw [IntKind.wrap_u8];omega
 have W3:IntKind.u64.wrap t=t:=by rw [IntKind.wrap_u64];omega
 have M1:k % 256=k:=by omega
 have M2:m % 256=m:=by omega
 have M3:t % 18446744073709551616=t:=by omega
 have HKN:=hid hkn
 have HUN:=hid hun
 have HQN:=hid hqn
 have HMN:=hid hmn
 have HNN:=hid hnn
 have HTN:=hid htn
 have E:Hid (lb ++ enc ⟨k,u,f,q,s,m,n,t⟩=((((((((lb ++ [kn]) ++ zar un 8) ++ zae f.size) ++ zaw f) ++ zae qn) ++ zae s.size) ++ zaw s) ++ zae nn)):=hid (by simp only [enc,e0,e1,e2,e3,e4,e5,zdJ,s0,s1,s2,s3,s4,s5];simp [hkn,hun,hqn,hmn,hnn,htn])
 have hf':f.size≤4611686018427387903:=by omega
 have hp':s.size≤4611686018427387903:=by omega
 clear s0 s1 s2 s3 s4 s5 hr hP hO hg hlb hkn hun hqn hmn hnn htn hk hu hq hn hm ht
 go_enter Tryz.func237,Tryz.ntmps237
 go_wp2_with fail
 with_reducible refine (zaJ ⟨k,u,f,q,s,m,n,t⟩ _ A0.out.parts hf' hp').mono ?_
 rw [HR.out]
 rintro e w1 ⟨rfl,hb⟩
 have A1:=hid (A0.out.on hb)
 clear hb A0
 obtain ⟨⟨c0,c1,c2,c3,c4,c5,c6,c7⟩,f0,f1,f2,f3,f4,f5,f6,f7⟩:=zaa A1.out.2.1
 go_wp2_with fail
 with_reducible refine (zaT base g lb kn _ _ A1.out.oat HKN.out (by have:=HL0.out;omega)).mono ?_
 rintro en w2 ⟨⟨rfl,ho,hb⟩,hs⟩
 have A2:=hid (A1.out.put ho hb hs)
 clear ho hb hs A1
 obtain ⟨l1,hl1⟩:∃x,lb ++ [kn]=x:=⟨_,rfl⟩
 have HL1:Hid (l1.length≤1000001):=hid (by rw [←hl1];have h0:=HL0.out;rw [List.length_append,List.length_singleton];omega)
 rw [hl1] at A2
 have HE1:=hid hl1
 clear hl1
 clear c0 c1 c2 c3 c4 c5 c6 c7 f0 f1 f2 f3 f4 f5 f6 f7
 obtain ⟨⟨c0,c1,c2,c3,c4,c5,c6,c7⟩,f0,f1,f2,f3,f4,f5,f6,f7⟩:=zaa A2.out.2.1
 go_wp2_with fail
 with_reducible refine (zb3 ⟨k,u,f,q,s,m,n,t⟩ true _ S0.out A2.out.parts).mono ?_
 rintro e w3 ⟨rfl,hb⟩
 have A3:=hid (A2.out.on hb)
 clear hb A2
 clear c0 c1 c2 c3 c4 c5 c6 c7 f0 f1 f2 f3 f4 f5 f6 f7
 obtain ⟨⟨c0,c1,c2,c3,c4,c5,c6,c7⟩,f0,f1,f2,f3,f4,f5,f6,f7⟩:=zaa A3.out.2.1
 go_wp2_with fail
 have D:=hid A3.out.drew
 have HLA:Hid ((l1 ++ zar un 8).length≤1000009):=hid (by have h0:=HL1.out;rw [List.length_append,zbt];omega)
 go_region_held3 (fun w'=>w'.cell? ⟨w.heap.size,1,none⟩=some (.int .u64 u)∧w'.cell? ⟨w.heap.size,2,none⟩=some (.string f))
  (first | exact A3.out.two | exact D.out.two | exact D4.out.two | exact D5.out.two)
  (first
   | (go_at_call 238;(with_reducible refine (zbJ base g l1 un _ _ D.out.oat HUN.out b2 (by have:=HL1.out;omega)).mono ?_);rintro en wa ⟨⟨rfl,ho4,hb4⟩,hs4⟩;have D4:=hid (D.out.put ho4 hb4 hs4))
   | (go_at_call 239;(with_reducible refine (zbz base g (l1 ++ zar un 8) _ f _ rfl D4.out.oat (by omega) (by have:=HLA.out;omega)).mono ?_);rintro en wb ⟨⟨rfl,ho5,hb5⟩,hs5⟩;have D5:=hid (D4.out.put ho5 hb5 hs5)))
 rename_i hHeld
 clear hHeld ho4 hb4 hs4 ho5 hb5 hs5 D D4 A3
 obtain ⟨l2,hl2⟩:∃x,((l1 ++ zar un 8) ++ zae f.size) ++ zaw f=x:=⟨_,rfl⟩
 have HL2:Hid (l2.length≤1000083):=hid (by rw [←hl2];have h0:=HLA.out;have h1:=zah (show f.size<18446744073709551616 by omega);rw [List.length_append,List.length_append,zaR];omega)
 rw [hl2] at D5
 have HE2:=hid hl2
 clear hl2
 clear c0 c1 c2 c3 c4 c5 c6 c7 f0 f1 f2 f3 f4 f5 f6 f7
 obtain ⟨⟨c0,c1,c2,c3,c4,c5,c6,c7⟩,f0,f1,f2,f3,f4,f5,f6,f7⟩:=zaa D5.out.2.1
 go_wp2_with fail
 with_reducible refine (zb7 ⟨k,u,f,q,s,m,n,t⟩ true _ S1.out D5.out.parts).mono ?_
 rintro e w4 ⟨rfl,hb⟩
 have A4:=hid (D5.out.on hb)
 clear hb D5
 clear c0 c1 c2 c3 c4 c5 c6 c7 f0 f1 f2 f3 f4 f5 f6 f7
 obtain ⟨⟨c0,c1,c2,c3,c4,c5,c6,c7⟩,f0,f1,f2,f3,f4,f5,f6,f7⟩:=zaa A4.out.2.1
 go_wp2_with fail
 with_reducible refine (zaz base g l2 qn _ _ A4.out.oat HQN.out (by omega) (by have:=HL2.out;omega)).mono ?_
 rintro en w5 ⟨⟨rfl,ho,hb⟩,hs⟩
 have A5:=hid (A4.out.put ho hb hs)
 clear ho hb hs A4
 obtain ⟨l3,hl3⟩:∃x,l2 ++ zae qn=x:=⟨_,rfl⟩
 have HL3:Hid (l3.length≤1000093):=hid (by rw [←hl3];have h0:=HL2.out;have h1:=zah (show qn<18446744073709551616 by omega);rw [List.length_append];omega)
 rw [hl3] at A5
 have HE3:=hid hl3
 clear hl3
 clear c0 c1 c2 c3 c4 c5 c6 c7 f0 f1 f2 f3 f4 f5 f6 f7
 obtain ⟨⟨c0,c1,c2,c3,c4,c5,c6,c7⟩,f0,f1,f2,f3,f4,f5,f6,f7⟩:=zaa A5.out.2.1
 go_wp2_with fail
 with_reducible refine (zb5 ⟨k,u,f,q,s,m,n,t⟩ true _ S2.out A5.out.parts).mono ?_
 rintro e w6 ⟨rfl,hb⟩
 have A6:=hid (A5.out.on hb)
 clear hb A5
 clear c0 c1 c2 c3 c4 c5 c6 c7 f0 f1 f2 f3 f4 f5 f6 f7
 obtain ⟨⟨c0,c1,c2,c3,c4,c5,c6,c7⟩,f0,f1,f2,f3,f4,f5,f6,f7⟩:=zaa A6.out.2.1
 go_wp2_with fail
 with_reducible refine (zbz base g l3 _ s _ rfl A6.out.oat (by omega) (by have:=HL3.out;omega)).mono ?_
 rintro en w7 ⟨⟨rfl,ho,hb⟩,hs⟩
 have A7:=hid (A6.out.put ho hb hs)
 clear ho hb hs A6
 obtain ⟨l4,hl4⟩:∃x,(l3 ++ zae s.size) ++ zaw s=x:=⟨_,rfl⟩
 have HL4:Hid (l4.length≤1000167):=hid (by rw [←hl4];have h0:=HL3.out;have h1:=zah (show s.size<18446744073709551616 by omega);rw [List.length_append,List.length_append,zaR];omega)
 rw [hl4] at A7
 have HE4:=hid hl4
 clear hl4
 clear c0 c1 c2 c3 c4 c5 c6 c7 f0 f1 f2 f3 f4 f5 f6 f7
 obtain ⟨⟨c0,c1,c2,c3,c4,c5,c6,c7⟩,f0,f1,f2,f3,f4,f5,f6,f7⟩:=zaa A7.out.2.1
 go_wp2_with fail
 with_reducible refine (zca ⟨k,u,f,q,s,m,n,t⟩ false _ S3.out A7.out.parts).mono ?_
 rintro e w8 ⟨rfl,hb⟩
 have A8:=hid (A7.out.on hb)
 clear hb A7
 clear c0 c1 c2 c3 c4 c5 c6 c7 f0 f1 f2 f3 f4 f5 f6 f7
 obtain ⟨⟨c0,c1,c2,c3,c4,c5,c6,c7⟩,f0,f1,f2,f3,f4,f5,f6,f7⟩:=zaa A8.out.2.1
 go_wp2_with fail
 with_reducible refine (zbT ⟨k,u,f,q,s,m,n,t⟩ true _ S4.out A8.out.parts).mono ?_
 rintro e w9 ⟨rfl,hb⟩
 have A9:=hid (A8.out.on hb)
 clear hb A8
 clear c0 c1 c2 c3 c4 c5 c6 c7 f0 f1 f2 f3 f4 f5 f6 f7
 obtain ⟨⟨c0,c1,c2,c3,c4,c5,c6,c7⟩,f0,f1,f2,f3,f4,f5,f6,f7⟩:=zaa A9.out.2.1
 go_wp2_with fail
 with_reducible refine (zaz base g l4 nn _ _ A9.out.oat HNN.out (by omega) (by have:=HL4.out;omega)).mono ?_
 rintro en w10 ⟨⟨rfl,ho,hb⟩,hs⟩
 have A10:=hid (A9.out.put ho hb hs)
 clear ho hb hs A9
 obtain ⟨l5,hl5⟩:∃x,l4 ++ zae nn=x:=⟨_,rfl⟩
 have HL5:Hid (l5.length≤1000177):=hid (by rw [←hl5];have h0:=HL4.out;have h1:=zah (show nn<18446744073709551616 by omega);rw [List.length_append];omega)
 rw [hl5] at A10
 have HE5:=hid hl5
 clear hl5
 clear c0 c1 c2 c3 c4 c5 c6 c7 f0 f1 f2 f3 f4 f5 f6 f7
 obtain ⟨⟨c0,c1,c2,c3,c4,c5,c6,c7⟩,f0,f1,f2,f3,f4,f5,f6,f7⟩:=zaa A10.out.2.1
 go_wp2_with fail
 with_reducible refine (zb4 ⟨k,u,f,q,s,m,n,t⟩ false _ S5.out A10.out.parts).mono ?_
 rintro e w11 ⟨rfl,hb⟩
 have A11:=hid (A10.out.on hb)
 clear hb A10
 clear c0 c1 c2 c3 c4 c5 c6 c7 f0 f1 f2 f3 f4 f5 f6 f7
 obtain ⟨⟨c0,c1,c2,c3,c4,c5,c6,c7⟩,f0,f1,f2,f3,f4,f5,f6,f7⟩:=zaa A11.out.2.1
 have R:Hid (zaB w11 base g (lb ++ enc ⟨k,u,f,q,s,m,n,t⟩)∧Below base w w11∧za0 g w w11):=hid ⟨by rw [E.out,HE1.out,HE2.out,HE3.out,HE4.out,HE5.out];exact A11.out.1,A11.out.bel,A11.out.stays⟩
 clear A11
 go_wp2
 go_end0
 exact ⟨rfl,R.out⟩
theorem zvv (base g:Nat) (lb:List Nat) (k u:Int) (f:ByteArray) (q:Int) (s:ByteArray) (m n t:Int) (w:World) (hP:zad w) (hg:0<base) (hO:zaB w base g lb) (hlb:lb.length≤1000000) (hs:Sig k true false false false false true) (hr:zaF ⟨k,u,f,q,s,m,n,t⟩=true)
  (hk:0≤k∧k≤8) (hu:0≤u∧u<18446744073709551616) (hq:0≤q∧q<18446744073709551616) (hn:0≤n∧n<18446744073709551616) (hm:0≤m∧m≤2) (ht:0≤t∧t≤1099511627776) (hf:f.size≤64) (hp:s.size≤64) :
  Calls Tryz.prog 237 #[val ⟨k,u,f,q,s,m,n,t⟩,.pointer (some ⟨g,0,none⟩)] w fun e w'=>e=.returned (.tuple #[])∧zaB w' base g (lb ++ enc ⟨k,u,f,q,s,m,n,t⟩)∧Below base w w'∧za0 g w w':=by
 obtain ⟨s0,s1,s2,s3,s4,s5⟩:=hs
 have S0:=hid s0
 have S1:=hid s1
 have S2:=hid s2
 have S3:=hid s3
 have S4:=hid s4
 have S5:=hid s5
 have HR:=hid hr
 have HL0:Hid (lb.length≤1000000):=hid hlb
 have A0:=hid (zcu.start hO hP hg ⟨k,u,f,q,s,m,n,t⟩)
 obtain ⟨kn,hkn⟩:∃kn:Nat,k=(kn:Int):=⟨k.toNat,by omega⟩
 obtain ⟨un,hun⟩:∃kn:Nat,u=(kn:Int):=⟨u.toNat,by omega⟩
 obtain ⟨qn,hqn⟩:∃kn:Nat,q=(kn:Int):=⟨q.toNat,by omega⟩
 obtain ⟨mn,hmn⟩:∃kn:Nat,m=(kn:Int):=⟨m.toNat,by omega⟩
 obtain ⟨nn,hnn⟩:∃kn:Nat,n=(kn:Int):=⟨n.toNat,by omega⟩
 obtain ⟨tn,htn⟩:∃kn:Nat,t=(kn:Int):=⟨t.toNat,by omega⟩
 have b1:kn≤8:=by omega
 have b2:un<18446744073709551616:=by omega
 have b3:qn<18446744073709551616:=by omega
 have b4:mn≤2:=by omega
 have b5:nn<18446744073709551616:=by omega
 have b6:tn≤1099511627776:=by omega
 have W1:IntKind.u8.wrap k=k:=by rw [IntKind.wrap_u8];omega
 have W2:IntKind.u8.wrap m=m:=by rw [IntKind.wrap_u8];omega
 have W3:IntKind.u64.wrap t=t:=by rw [IntKind.wrap_u64];omega
 have M1:k % 256=k:=by omega
 have M2:m % 256=m:=by omega
 have M3:t % 18446744073709551616=t:=by omega
 have HKN:=hid hkn
 have HUN:=hid hun
 have HQN:=hid hqn
 have HMN:=hid hmn
 have HNN:=hid hnn
 have HTN:=hid htn
 have E:Hid (lb ++ enc ⟨k,u,f,q,s,m,n,t⟩=(((((lb ++ [kn]) ++ zar un 8) ++ zae f.size) ++ zaw f) ++ zae tn)):=hid (by simp only [enc,e0,e1,e2,e3,e4,e5,zdJ,s0,s1,s2,s3,s4,s5];simp [hkn,hun,hqn,hmn,hnn,htn])
 have hf':f.size≤4611686018427387903:=by omega
 have hp':s.size≤4611686018427387903:=by omega
 clear s0 s1 s2 s3 s4 s5 hr hP hO hg hlb hkn hun hqn hmn hnn htn hk hu hq hn hm ht
 go_enter Tryz.func237,Tryz.ntmps237
 go_wp2_with fail
 with_reducible refine (zaJ ⟨k,u,f,q,s,m,n,t⟩ _ A0.out.parts hf' hp').mono ?_
 rw [HR.out]
 rintro e w1 ⟨rfl,hb⟩
 have A1:=hid (A0.out.on hb)
 clear hb A0
 obtain ⟨⟨c0,c1,c2,c3,c4,c5,c6,c7⟩,f0,f1,f2,f3,f4,f5,f6,f7⟩:=zaa A1.out.2.1
 go_wp2_with fail
 with_reducible refine (zaT base g lb kn _ _ A1.out.oat HKN.out (by have:=HL0.out;omega)).mono ?_
 rintro en w2 ⟨⟨rfl,ho,hb⟩,hs⟩
 have A2:=hid (A1.out.put ho hb hs)
 clear ho hb hs A1
 obtain ⟨l1,hl1⟩:∃x,lb ++ [kn]=x:=⟨_,rfl⟩
 have HL1:Hid (l1.length≤1000001):=hid (by rw [←hl1];have h0:=HL0.out;rw [List.length_append,List.length_singleton];omega)
 rw [hl1] at A2
 have HE1:=hid hl1
 clear hl1
 clear c0 c1 c2 c3 c4 c5 c6 c7 f0 f1 f2 f3 f4 f5 f6 f7
 obtain ⟨⟨c0,c1,c2,c3,c4,c5,c6,c7⟩,f0,f1,f2,f3,f4,f5,f6,f7⟩:=zaa A2.out.2.1
 go_wp2_with fail
 with_reducible refine (zb3 ⟨k,u,f,q,s,m,n,t⟩ true _ S0.out A2.out.parts).mono ?_
 rintro e w3 ⟨rfl,hb⟩
 have A3:=hid (A2.out.on hb)
 clear hb A2
 clear c0 c1 c2 c3 c4 c5 c6 c7 f0 f1 f2 f3 f4 f5 f6 f7
 obtain ⟨⟨c0,c1,c2,c3,c4,c5,c6,c7⟩,f0,f1,f2,f3,f4,f5,f6,f7⟩:=zaa A3.out.2.1
 go_wp2_with fail
 have D:=hid A3.out.drew
 have HLA:Hid ((l1 ++ zar un 8).length≤1000009):=hid (by have h0:=HL1.out;rw [List.length_append,zbt];omega)
 go_region_held3 (fun w'=>w'.cell? ⟨w.heap.size,1,none⟩=some (.int .u64 u)∧w'.cell? ⟨w.heap.size,2,none⟩=some (.string f))
  (first | exact A3.out.two | exact D.out.two | exact D4.out.two | exact D5.out.two)
  (first
   | (go_at_call 238;(with_reducible refine (zbJ base g l1 un _ _ D.out.oat HUN.out b2 (by have:=HL1.out;omega)).mono ?_);rintro en wa ⟨⟨rfl,ho4,hb4⟩,hs4⟩;have D4:=hid (D.out.put ho4 hb4 hs4))
   | (go_at_call 239;(with_reducible refine (zbz base g (l1 ++ zar un 8) _ f _ rfl D4.out.oat (by omega) (by have:=HLA.out;omega)).mono ?_);rintro en wb ⟨⟨rfl,ho5,hb5⟩,hs5⟩;have D5:=hid (D4.out.put ho5 hb5 hs5)))
 rename_i hHeld
 clear hHeld ho4 hb4 hs4 ho5 hb5 hs5 D D4 A3
 obtain ⟨l2,hl2⟩:∃x,((l1 ++ zar un 8) ++ zae f.size) ++ zaw f=x:=⟨_,rfl⟩
 have HL2:Hid (l2.length≤1000083):=hid (by rw [←hl2];have h0:=HLA.out;have h1:=zah (show f.size<18446744073709551616 by omega);rw [List.length_append,List.length_append,zaR];omega)
 rw [hl2] at D5
 have HE2:=hid hl2
 clear hl2
 clear c0 c1 c2 c3 c4 c5 c6 c7 f0 f1 f2 f3 f4 f5 f6 f7
 obtain ⟨⟨c0,c1,c2,c3,c4,c5,c6,c7⟩,f0,f1,f2,f3,f4,f5,f6,f7⟩:=zaa D5.out.2.1
 go_wp2_with fail
 with_reducible refine (zb7 ⟨k,u,f,q,s,m,n,t⟩ false _ S1.out D5.out.parts).mono ?_
 rintro e w4 ⟨rfl,hb⟩
 have A4:=hid (D5.out.on hb)
 clear hb D5
 clear c0 c1 c2 c3 c4 c5 c6 c7 f0 f1 f2 f3 f4 f5 f6 f7
 obtain ⟨⟨c0,c1,c2,c3,c4,c5,c6,c7⟩,f0,f1,f2,f3,f4,f5,f6,f7⟩:=zaa A4.out.2.1
 go_wp2_with fail
 with_reducible refine (zb5 ⟨k,u,f,q,s,m,n,t⟩ false _ S2.out A4.out.parts).mono ?_
 rintro e w5 ⟨rfl,hb⟩
 have A5:=hid (A4.out.on hb)
 clear hb A4
 clear c0 c1 c2 c3 c4 c5 c6 c7 f0 f1 f2 f3 f4 f5 f6 f7
 obtain ⟨⟨c0,c1,c2,c3,c4,c5,c6,c7⟩,f0,f1,f2,f3,f4,f5,f6,f7⟩:=zaa A5.out.2.1
 go_wp2_with fail
 with_reducible refine (zca ⟨k,u,f,q,s,m,n,t⟩ false _ S3.out A5.out.parts).mono ?_
 rintro e w6 ⟨rfl,hb⟩
 have A6:=hid (A5.out.on hb)
 clear hb A5
 clear c0 c1 c2 c3 c4 c5 c6 c7 f0 f1 f2 f3 f4 f5 f6 f7
 obtain ⟨⟨c0,c1,c2,c3,c4,c5,c6,c7⟩,f0,f1,f2,f3,f4,f5,f6,f7⟩:=zaa A6.out.2.1
 go_wp2_with fail
 with_reducible refine (zbT ⟨k,u,f,q,s,m,n,t⟩ false _ S4.out A6.out.parts).mono ?_
 rintro e w7 ⟨rfl,hb⟩
 have A7:=hid (A6.out.on hb)
 clear hb A6
 clear c0 c1 c2 c3 c4 c5 c6 c7 f0 f1 f2 f3 f4 f5 f6 f7
 obtain ⟨⟨c0,c1,c2,c3,c4,c5,c6,c7⟩,f0,f1,f2,f3,f4,f5,f6,f7⟩:=zaa A7.out.2.1
 go_wp2_with fail
 with_reducible refine (zb4 ⟨k,u,f,q,s,m,n,t⟩ true _ S5.out A7.out.parts).mono ?_
 rintro e w8 ⟨rfl,hb⟩
 have A8:=hid (A7.out.on hb)
 clear hb A7
 clear c0 c1 c2 c3 c4 c5 c6 c7 f0 f1 f2 f3 f4 f5 f6 f7
 obtain ⟨⟨c0,c1,c2,c3,c4,c5,c6,c7⟩,f0,f1,f2,f3,f4,f5,f6,f7⟩:=zaa A8.out.2.1
 go_wp2_with fail
 with_reducible refine (zaz base g l2 tn _ _ A8.out.oat HTN.out (by omega) (by have:=HL2.out;omega)).mono ?_
 rintro en w9 ⟨⟨rfl,ho,hb⟩,hs⟩
 have A9:=hid (A8.out.put ho hb hs)
 clear ho hb hs A8
 obtain ⟨l3,hl3⟩:∃x,l2 ++ zae tn=x:=⟨_,rfl⟩
 have HL3:Hid (l3.length≤1000093):=hid (by rw [←hl3];have h0:=HL2.out;have h1:=zah (show tn<18446744073709551616 by omega);rw [List.length_append];omega)
 rw [hl3] at A9
 have HE3:=hid hl3
 clear hl3
 clear c0 c1 c2 c3 c4 c5 c6 c7 f0 f1 f2 f3 f4 f5 f6 f7
 obtain ⟨⟨c0,c1,c2,c3,c4,c5,c6,c7⟩,f0,f1,f2,f3,f4,f5,f6,f7⟩:=zaa A9.out.2.1
 have R:Hid (zaB w9 base g (lb ++ enc ⟨k,u,f,q,s,m,n,t⟩)∧Below base w w9∧za0 g w w9):=hid ⟨by rw [E.out,HE1.out,HE2.out,HE3.out];exact A9.out.1,A9.out.bel,A9.out.stays⟩
 clear A9
 go_wp2
 go_end0
 exact ⟨rfl,R.out⟩
end Go.Proofs.YtnjdckoljmgcjaaGreatDoor
