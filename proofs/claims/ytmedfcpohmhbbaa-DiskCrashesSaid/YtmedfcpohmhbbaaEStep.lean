/-
  The law's step of both disks.
-/
import Derived.Test.YtmedfcpohmhbbaaEStA
namespace Go.Proofs.Ytmedfcpohmhbbaa
open Go.ChangeShapes Go.WideShapes Go.ChangeAt Go.RowKit
set_option linter.unusedVariables false
set_option linter.unusedSimpArgs false

theorem op_cells4 {w : World} {g : Nat} {t : TypeId} {a b c d : Value} (h : Blk w g t #[a, b, c, d]) : w.cell? ⟨g, 0, none⟩ = some a ∧ w.cell? ⟨g, 1, none⟩ = some b ∧ w.cell? ⟨g, 2, none⟩ = some c ∧ w.cell? ⟨g, 3, none⟩ = some d :=
  ⟨(h.cell 0).trans rfl, (h.cell 1).trans rfl, (h.cell 2).trans rfl, (h.cell 3).trans rfl⟩
abbrev opC (kd f n : Int) (C : Option Addr) (m c : Nat) : Array Value := #[.int .i64 kd, .int .i64 f, .int .i64 n, .slice C m c]

set_option maxRecDepth 100000 in
set_option maxHeartbeats 4000000 in
theorem step_app (base g : Nat) (d : Dk) (v : Nat → Value) (dx : Dk) (x : Nat → Value) (f n : Int) (C : Option Addr) (b : List Nat) (m c : Nat) (w : World) (h : DiskAt w base g d v) (ho : d.Ok) (hx : RefAt (OwnD g v) w dx x) (hxo : dx.Ok) (hn : b.length = m) (hC : C = none → c = 0) (hc : m ≤ c) (hcm : c ≤ maxLen) (hb : Apart (OwnD g v) w C b) :
    Calls Try.prog 13 #[.pointer (some ⟨g, 0, none⟩), rV dx x, .agg (opC 1 f n C m c)] w (Stp base g v ((appD d f b).1) ((appD dx f b).1) ((appD d f b).2 == (appD dx f b).2) w) := by
  have HOK := hid ho
  have HXO := hid hxo
  have HN := hid hn
  have HC0 := hid hC
  have HCC := hid (And.intro hc hcm)
  have HB := hid hb
  have HBeg := hid (fun W hW => At3.begin (W := W) (oc := opC 1 f n C m c) h hx hb hW)
  clear h ho hx hxo hn hC hc hcm hb
  obtain ⟨r1, hr1⟩ : ∃ r, (appD d f b).2 = r := ⟨_, rfl⟩
  obtain ⟨r2, hr2'⟩ : ∃ r, (appD dx f b).2 = r := ⟨_, rfl⟩
  obtain ⟨d1, hd1⟩ : ∃ r, (appD d f b).1 = r := ⟨_, rfl⟩
  obtain ⟨d2, hd2⟩ : ∃ r, (appD dx f b).1 = r := ⟨_, rfl⟩
  rw [hr1, hr2', hd1, hd2]
  have HDo := hid (fun p W (S : At3 w W base g p d v v dx x (rC dx x) (opC 1 f n C m c) C b) => append_any base g d v f C b m c W S.disk HOK.out HN.out HC0.out HCC.out.1 HCC.out.2 (S.arg.turns (T := OwnD g v) (Turns.refl (Away g p v) W) (fun _ _ h => .inl h)))
  rw [hr1, hd1] at HDo
  have HRo := hid (fun p v1 W (S : At3 w W base g p d1 v v1 dx x (rC dx x) (opC 1 f n C m c) C b) => refapp_any (S := Away g p v1) dx x f C b m c W S.ref S.lt HXO.out HN.out S.arg.sees)
  rw [hr2', hd2] at HRo
  clear hr1 hr2' hd1 hd2
  go_enter Try.func13, Try.ntmps13
  go_upto_region 1 with fail
  obtain ⟨W, hW⟩ : ∃ W, ((w.alloc (.cells (rC dx x) 34)).alloc (.cells (opC 1 f n C m c) 30)).alloc (.cells #[.int .i64 0, .slice none 0 0, .slice none 0 0, .int .i64 0, .int .i64 0, .int .i64 0, .bool false] 34) = W := ⟨_, rfl⟩
  rw [hW]
  have S0 := hid (HBeg.out W hW)
  clear HBeg hW
  obtain ⟨p, hp⟩ : ∃ p, w.heap.size = p := ⟨_, rfl⟩
  rw [hp] at S0
  rw [hp]
  have HP := hid hp
  clear hp
  obtain ⟨c0, c1, c2, c3⟩ := op_cells4 S0.out.op
  go_wp2_with fail
  with_reducible refine (HDo.out _ _ S0.out).mono ?_
  intro e w1 hd
  obtain ⟨v1, rfl, q⟩ := S0.out.did hd
  have S1 := hid q
  clear q hd S0 c0 c1 c2 c3
  obtain ⟨c0, c1, c2, c3⟩ := op_cells4 S1.out.op
  have T1 := hid (rC_size dx x)
  have TB := hid S1.out.box.heap
  go_wp2_with (first
    | (with_reducible refine wpList_load_row (o := ⟨some 21, _, _, _, _, _⟩) rfl 34 (.tmp 4) rfl p rfl 34 (rC dx x) (0, 0) _ TB.out Try.underlying34 rfl T1.out ?_))
  with_reducible refine (HRo.out _ _ _ S1.out).mono ?_
  rintro e w2 ⟨x2, rfl, hr2, hb2⟩
  have S2 := hid (S1.out.told hb2 hr2)
  clear S1 hb2 hr2 c0 c1 c2 c3 TB T1
  have T1 : Hid ((rC dx x).size = (rC d2 x2).size) := hid rfl
  have T2 := hid (rC_size d2 x2)
  have T4 := hid (rC_one (d' := d2) S2.out.ref)
  have T5 : Hid (zrC.size = (rC d2 x2).size) := hid rfl
  have TB := hid S2.out.box.heap
  go_upto_region 18 with (first
    | (with_reducible refine wpList_store_row (o := ⟨none, _, _, _, _, _⟩) rfl 34 (.tmp 4) (.tmp 27) rfl p (rC d2 x2) rfl rfl 34 _ TB.out T2.out T1.out T4.out ?_))
  have S3 := hid (S2.out.put HP.out (rC d2 x2))
  obtain ⟨W3, hW3⟩ : ∃ W3, w2.setRow p (rC d2 x2) = W3 := ⟨_, rfl⟩
  rw [hW3] at S3
  rw [hW3]
  clear hW3 S2 TB T1
  have TB := hid S3.out.box.heap
  have TZ := hid S3.out.res.heap
  have HR := hid (S3.out.fin HP.out (rC d2 x2) (r1 == r2))
  obtain ⟨d0, d1, d2', d3', d4, d5, d6⟩ := rcells (S3.out.res.rowE (cs' := rC d2 x2))
  clear S3
  go_wp2_with (first
    | (with_reducible refine wpList_load_row (o := ⟨some 85, _, _, _, _, _⟩) rfl 34 (.tmp 4) rfl p rfl 34 (rC d2 x2) (0, 0) _ TB.out Try.underlying34 rfl T2.out ?_)
    | (with_reducible refine wpList_store_row (o := ⟨none, _, _, _, _, _⟩) rfl 34 (.tmp 6) (.tmp 85) rfl (p + 1 + 1) (rC d2 x2) rfl rfl 34 _ TZ.out T2.out T5.out T4.out ?_))
  refine bodyPost_ret (v := .tuple #[.agg #[.int .i64 d2.sz, x2 0, x2 1, .int .i64 (d2.s 0 : Int), .int .i64 (d2.s 1 : Int), .int .i64 (unR d2), .bool d2.dn], .bool (r1 == r2)]) (by simp [results, Try.results13, go_sem, d0, d1, d2', d3', d4, d5, d6]) rfl HR.out

set_option maxRecDepth 100000 in
set_option maxHeartbeats 4000000 in
theorem step_sync (base g : Nat) (d : Dk) (v : Nat → Value) (dx : Dk) (x : Nat → Value) (f n : Int) (C : Option Addr) (b : List Nat) (m c : Nat) (w : World) (h : DiskAt w base g d v) (ho : d.Ok) (hx : RefAt (OwnD g v) w dx x) (hxo : dx.Ok) (hn : b.length = m) (hC : C = none → c = 0) (hc : m ≤ c) (hcm : c ≤ maxLen) (hb : Apart (OwnD g v) w C b) :
    Calls Try.prog 13 #[.pointer (some ⟨g, 0, none⟩), rV dx x, .agg (opC 2 f n C m c)] w (Stp base g v ((syncD d f).1) ((syncD dx f).1) ((syncD d f).2 == (syncD dx f).2) w) := by
  have HOK := hid ho
  have HXO := hid hxo
  have HN := hid hn
  have HC0 := hid hC
  have HCC := hid (And.intro hc hcm)
  have HB := hid hb
  have HBeg := hid (fun W hW => At3.begin (W := W) (oc := opC 2 f n C m c) h hx hb hW)
  clear h ho hx hxo hn hC hc hcm hb
  obtain ⟨r1, hr1⟩ : ∃ r, (syncD d f).2 = r := ⟨_, rfl⟩
  obtain ⟨r2, hr2'⟩ : ∃ r, (syncD dx f).2 = r := ⟨_, rfl⟩
  obtain ⟨d1, hd1⟩ : ∃ r, (syncD d f).1 = r := ⟨_, rfl⟩
  obtain ⟨d2, hd2⟩ : ∃ r, (syncD dx f).1 = r := ⟨_, rfl⟩
  rw [hr1, hr2', hd1, hd2]
  have HDo := hid (fun p W (S : At3 w W base g p d v v dx x (rC dx x) (opC 2 f n C m c) C b) => sync_any base g d v f W S.disk HOK.out)
  rw [hr1, hd1] at HDo
  have HRo := hid (fun p v1 W (S : At3 w W base g p d1 v v1 dx x (rC dx x) (opC 2 f n C m c) C b) => refsync_any (S := Away g p v1) dx x f W S.ref HXO.out)
  rw [hr2', hd2] at HRo
  clear hr1 hr2' hd1 hd2
  go_enter Try.func13, Try.ntmps13
  go_upto_region 1 with fail
  obtain ⟨W, hW⟩ : ∃ W, ((w.alloc (.cells (rC dx x) 34)).alloc (.cells (opC 2 f n C m c) 30)).alloc (.cells #[.int .i64 0, .slice none 0 0, .slice none 0 0, .int .i64 0, .int .i64 0, .int .i64 0, .bool false] 34) = W := ⟨_, rfl⟩
  rw [hW]
  have S0 := hid (HBeg.out W hW)
  clear HBeg hW
  obtain ⟨p, hp⟩ : ∃ p, w.heap.size = p := ⟨_, rfl⟩
  rw [hp] at S0
  rw [hp]
  have HP := hid hp
  clear hp
  obtain ⟨c0, c1, c2, c3⟩ := op_cells4 S0.out.op
  go_wp2_with fail
  with_reducible refine (HDo.out _ _ S0.out).mono ?_
  intro e w1 hd
  obtain ⟨v1, rfl, q⟩ := S0.out.did hd
  have S1 := hid q
  clear q hd S0 c0 c1 c2 c3
  obtain ⟨c0, c1, c2, c3⟩ := op_cells4 S1.out.op
  have T1 := hid (rC_size dx x)
  have TB := hid S1.out.box.heap
  go_wp2_with (first
    | (with_reducible refine wpList_load_row (o := ⟨some 36, _, _, _, _, _⟩) rfl 34 (.tmp 4) rfl p rfl 34 (rC dx x) (0, 0) _ TB.out Try.underlying34 rfl T1.out ?_))
  with_reducible refine (HRo.out _ _ _ S1.out).mono ?_
  rintro e w2 ⟨x2, rfl, hr2, hb2⟩
  have S2 := hid (S1.out.told hb2 hr2)
  clear S1 hb2 hr2 c0 c1 c2 c3 TB T1
  have T1 : Hid ((rC dx x).size = (rC d2 x2).size) := hid rfl
  have T2 := hid (rC_size d2 x2)
  have T4 := hid (rC_one (d' := d2) S2.out.ref)
  have T5 : Hid (zrC.size = (rC d2 x2).size) := hid rfl
  have TB := hid S2.out.box.heap
  go_upto_region 18 with (first
    | (with_reducible refine wpList_store_row (o := ⟨none, _, _, _, _, _⟩) rfl 34 (.tmp 4) (.tmp 40) rfl p (rC d2 x2) rfl rfl 34 _ TB.out T2.out T1.out T4.out ?_))
  have S3 := hid (S2.out.put HP.out (rC d2 x2))
  obtain ⟨W3, hW3⟩ : ∃ W3, w2.setRow p (rC d2 x2) = W3 := ⟨_, rfl⟩
  rw [hW3] at S3
  rw [hW3]
  clear hW3 S2 TB T1
  have TB := hid S3.out.box.heap
  have TZ := hid S3.out.res.heap
  have HR := hid (S3.out.fin HP.out (rC d2 x2) (r1 == r2))
  obtain ⟨d0, d1, d2', d3', d4, d5, d6⟩ := rcells (S3.out.res.rowE (cs' := rC d2 x2))
  clear S3
  go_wp2_with (first
    | (with_reducible refine wpList_load_row (o := ⟨some 85, _, _, _, _, _⟩) rfl 34 (.tmp 4) rfl p rfl 34 (rC d2 x2) (0, 0) _ TB.out Try.underlying34 rfl T2.out ?_)
    | (with_reducible refine wpList_store_row (o := ⟨none, _, _, _, _, _⟩) rfl 34 (.tmp 6) (.tmp 85) rfl (p + 1 + 1) (rC d2 x2) rfl rfl 34 _ TZ.out T2.out T5.out T4.out ?_))
  refine bodyPost_ret (v := .tuple #[.agg #[.int .i64 d2.sz, x2 0, x2 1, .int .i64 (d2.s 0 : Int), .int .i64 (d2.s 1 : Int), .int .i64 (unR d2), .bool d2.dn], .bool (r1 == r2)]) (by simp [results, Try.results13, go_sem, d0, d1, d2', d3', d4, d5, d6]) rfl HR.out

set_option maxRecDepth 100000 in
set_option maxHeartbeats 4000000 in
theorem step_trim (base g : Nat) (d : Dk) (v : Nat → Value) (dx : Dk) (x : Nat → Value) (f n : Int) (C : Option Addr) (b : List Nat) (m c : Nat) (w : World) (h : DiskAt w base g d v) (ho : d.Ok) (hx : RefAt (OwnD g v) w dx x) (hxo : dx.Ok) (hn : b.length = m) (hC : C = none → c = 0) (hc : m ≤ c) (hcm : c ≤ maxLen) (hb : Apart (OwnD g v) w C b) :
    Calls Try.prog 13 #[.pointer (some ⟨g, 0, none⟩), rV dx x, .agg (opC 3 f n C m c)] w (Stp base g v ((trimD d f n).1) ((trimD dx f n).1) ((trimD d f n).2 == (trimD dx f n).2) w) := by
  have HOK := hid ho
  have HXO := hid hxo
  have HN := hid hn
  have HC0 := hid hC
  have HCC := hid (And.intro hc hcm)
  have HB := hid hb
  have HBeg := hid (fun W hW => At3.begin (W := W) (oc := opC 3 f n C m c) h hx hb hW)
  clear h ho hx hxo hn hC hc hcm hb
  obtain ⟨r1, hr1⟩ : ∃ r, (trimD d f n).2 = r := ⟨_, rfl⟩
  obtain ⟨r2, hr2'⟩ : ∃ r, (trimD dx f n).2 = r := ⟨_, rfl⟩
  obtain ⟨d1, hd1⟩ : ∃ r, (trimD d f n).1 = r := ⟨_, rfl⟩
  obtain ⟨d2, hd2⟩ : ∃ r, (trimD dx f n).1 = r := ⟨_, rfl⟩
  rw [hr1, hr2', hd1, hd2]
  have HDo := hid (fun p W (S : At3 w W base g p d v v dx x (rC dx x) (opC 3 f n C m c) C b) => trim_any base g d v f n W S.disk HOK.out)
  rw [hr1, hd1] at HDo
  have HRo := hid (fun p v1 W (S : At3 w W base g p d1 v v1 dx x (rC dx x) (opC 3 f n C m c) C b) => reftrim_any (S := Away g p v1) dx x f n W S.ref HXO.out)
  rw [hr2', hd2] at HRo
  clear hr1 hr2' hd1 hd2
  go_enter Try.func13, Try.ntmps13
  go_upto_region 1 with fail
  obtain ⟨W, hW⟩ : ∃ W, ((w.alloc (.cells (rC dx x) 34)).alloc (.cells (opC 3 f n C m c) 30)).alloc (.cells #[.int .i64 0, .slice none 0 0, .slice none 0 0, .int .i64 0, .int .i64 0, .int .i64 0, .bool false] 34) = W := ⟨_, rfl⟩
  rw [hW]
  have S0 := hid (HBeg.out W hW)
  clear HBeg hW
  obtain ⟨p, hp⟩ : ∃ p, w.heap.size = p := ⟨_, rfl⟩
  rw [hp] at S0
  rw [hp]
  have HP := hid hp
  clear hp
  obtain ⟨c0, c1, c2, c3⟩ := op_cells4 S0.out.op
  go_wp2_with fail
  with_reducible refine (HDo.out _ _ S0.out).mono ?_
  intro e w1 hd
  obtain ⟨v1, rfl, q⟩ := S0.out.did hd
  have S1 := hid q
  clear q hd S0 c0 c1 c2 c3
  obtain ⟨c0, c1, c2, c3⟩ := op_cells4 S1.out.op
  have T1 := hid (rC_size dx x)
  have TB := hid S1.out.box.heap
  go_wp2_with (first
    | (with_reducible refine wpList_load_row (o := ⟨some 51, _, _, _, _, _⟩) rfl 34 (.tmp 4) rfl p rfl 34 (rC dx x) (0, 0) _ TB.out Try.underlying34 rfl T1.out ?_))
  with_reducible refine (HRo.out _ _ _ S1.out).mono ?_
  rintro e w2 ⟨x2, rfl, hr2, hb2⟩
  have S2 := hid (S1.out.told hb2 hr2)
  clear S1 hb2 hr2 c0 c1 c2 c3 TB T1
  have T1 : Hid ((rC dx x).size = (rC d2 x2).size) := hid rfl
  have T2 := hid (rC_size d2 x2)
  have T4 := hid (rC_one (d' := d2) S2.out.ref)
  have T5 : Hid (zrC.size = (rC d2 x2).size) := hid rfl
  have TB := hid S2.out.box.heap
  go_upto_region 18 with (first
    | (with_reducible refine wpList_store_row (o := ⟨none, _, _, _, _, _⟩) rfl 34 (.tmp 4) (.tmp 57) rfl p (rC d2 x2) rfl rfl 34 _ TB.out T2.out T1.out T4.out ?_))
  have S3 := hid (S2.out.put HP.out (rC d2 x2))
  obtain ⟨W3, hW3⟩ : ∃ W3, w2.setRow p (rC d2 x2) = W3 := ⟨_, rfl⟩
  rw [hW3] at S3
  rw [hW3]
  clear hW3 S2 TB T1
  have TB := hid S3.out.box.heap
  have TZ := hid S3.out.res.heap
  have HR := hid (S3.out.fin HP.out (rC d2 x2) (r1 == r2))
  obtain ⟨d0, d1, d2', d3', d4, d5, d6⟩ := rcells (S3.out.res.rowE (cs' := rC d2 x2))
  clear S3
  go_wp2_with (first
    | (with_reducible refine wpList_load_row (o := ⟨some 85, _, _, _, _, _⟩) rfl 34 (.tmp 4) rfl p rfl 34 (rC d2 x2) (0, 0) _ TB.out Try.underlying34 rfl T2.out ?_)
    | (with_reducible refine wpList_store_row (o := ⟨none, _, _, _, _, _⟩) rfl 34 (.tmp 6) (.tmp 85) rfl (p + 1 + 1) (rC d2 x2) rfl rfl 34 _ TZ.out T2.out T5.out T4.out ?_))
  refine bodyPost_ret (v := .tuple #[.agg #[.int .i64 d2.sz, x2 0, x2 1, .int .i64 (d2.s 0 : Int), .int .i64 (d2.s 1 : Int), .int .i64 (unR d2), .bool d2.dn], .bool (r1 == r2)]) (by simp [results, Try.results13, go_sem, d0, d1, d2', d3', d4, d5, d6]) rfl HR.out

set_option maxRecDepth 100000 in
set_option maxHeartbeats 4000000 in
theorem step_arm (base g : Nat) (d : Dk) (v : Nat → Value) (dx : Dk) (x : Nat → Value) (f n : Int) (C : Option Addr) (b : List Nat) (m c : Nat) (w : World) (h : DiskAt w base g d v) (ho : d.Ok) (hx : RefAt (OwnD g v) w dx x) (hxo : dx.Ok) (hn : b.length = m) (hC : C = none → c = 0) (hc : m ≤ c) (hcm : c ≤ maxLen) (hb : Apart (OwnD g v) w C b) :
    Calls Try.prog 13 #[.pointer (some ⟨g, 0, none⟩), rV dx x, .agg (opC 4 f n C m c)] w (Stp base g v (armD d n) (armD dx n) (true) w) := by
  have HOK := hid ho
  have HXO := hid hxo
  have HN := hid hn
  have HC0 := hid hC
  have HCC := hid (And.intro hc hcm)
  have HB := hid hb
  have HBeg := hid (fun W hW => At3.begin (W := W) (oc := opC 4 f n C m c) h hx hb hW)
  clear h ho hx hxo hn hC hc hcm hb
  obtain ⟨r, hr⟩ : ∃ r, (if n < 0 then 0 else n) = r := ⟨_, rfl⟩
  obtain ⟨d1, hd1⟩ : ∃ r, armD d n = r := ⟨_, rfl⟩
  obtain ⟨d2, hd2⟩ : ∃ r, armD dx n = r := ⟨_, rfl⟩
  rw [hd1, hd2]
  have hm := fun (w : World) (ts : Array TypeId) (t : TypeId) => run_maxE Try.prog n 0 r hr w ts t
  have HDo := hid (fun p W (S : At3 w W base g p d v v dx x (rC dx x) (opC 4 f n C m c) C b) => arm_any base g d v n W S.disk)
  rw [hd1] at HDo
  have HL2 : Hid (d2.l = dx.l) := hid (by rw [← hd2]; rfl)
  have HCell : Hid (∀ x, (rC dx x).setIfInBounds 5 (.int .i64 r) = rC d2 x) := hid (fun x => by rw [← hd2, ← hr]; rfl)
  clear hr hd1 hd2
  go_enter Try.func13, Try.ntmps13
  go_upto_region 1 with fail
  obtain ⟨W, hW⟩ : ∃ W, ((w.alloc (.cells (rC dx x) 34)).alloc (.cells (opC 4 f n C m c) 30)).alloc (.cells #[.int .i64 0, .slice none 0 0, .slice none 0 0, .int .i64 0, .int .i64 0, .int .i64 0, .bool false] 34) = W := ⟨_, rfl⟩
  rw [hW]
  have S0 := hid (HBeg.out W hW)
  clear HBeg hW
  obtain ⟨p, hp⟩ : ∃ p, w.heap.size = p := ⟨_, rfl⟩
  rw [hp] at S0
  rw [hp]
  have HP := hid hp
  clear hp
  obtain ⟨c0, c1, c2, c3⟩ := op_cells4 S0.out.op
  go_wp2_with fail
  with_reducible refine (HDo.out _ _ S0.out).mono ?_
  intro e w1 hd
  obtain ⟨v1, rfl, q⟩ := S0.out.did hd
  have S1 := hid q
  clear q hd S0 c0 c1 c2 c3
  obtain ⟨c0, c1, c2, c3⟩ := op_cells4 S1.out.op
  obtain ⟨x2, hx2⟩ : ∃ y, x = y := ⟨_, rfl⟩
  rw [hx2] at S1
  have HXX := hid hx2
  clear hx2
  have c5 := ((S1.out.box.cell 5).trans rfl : w1.cell? ⟨p, 5, none⟩ = some (.int .i64 (unR dx)))
  have f5 := S1.out.box.frozen 5
  go_upto_region 18 with fail
  have S3 := hid (S1.out.set HP.out 5 (.int .i64 r) (dx' := d2) HL2.out)
  rw [HCell.out x2] at S3
  obtain ⟨W3, hW3⟩ : ∃ W3, w1.setCell ⟨p, 5, none⟩ (.int .i64 r) = W3 := ⟨_, rfl⟩
  rw [hW3] at S3
  rw [hW3]
  clear hW3 S1 c0 c1 c2 c3 c5 f5
  have T2 := hid (rC_size d2 x2)
  have T4 := hid (rC_one (d' := d2) S3.out.ref)
  have T5 : Hid (zrC.size = (rC d2 x2).size) := hid rfl
  have TB := hid S3.out.box.heap
  have TZ := hid S3.out.res.heap
  have HR := hid (S3.out.fin HP.out (rC d2 x2) (true))
  obtain ⟨d0, d1, d2', d3', d4, d5, d6⟩ := rcells (S3.out.res.rowE (cs' := rC d2 x2))
  clear S3
  go_wp2_with (first
    | (with_reducible refine wpList_load_row (o := ⟨some 85, _, _, _, _, _⟩) rfl 34 (.tmp 4) rfl p rfl 34 (rC d2 x2) (0, 0) _ TB.out Try.underlying34 rfl T2.out ?_)
    | (with_reducible refine wpList_store_row (o := ⟨none, _, _, _, _, _⟩) rfl 34 (.tmp 6) (.tmp 85) rfl (p + 1 + 1) (rC d2 x2) rfl rfl 34 _ TZ.out T2.out T5.out T4.out ?_))
  refine bodyPost_ret (v := .tuple #[.agg #[.int .i64 d2.sz, x2 0, x2 1, .int .i64 (d2.s 0 : Int), .int .i64 (d2.s 1 : Int), .int .i64 (unR d2), .bool d2.dn], .bool (true)]) (by simp [results, Try.results13, go_sem, d0, d1, d2', d3', d4, d5, d6]) rfl HR.out

set_option maxRecDepth 100000 in
set_option maxHeartbeats 4000000 in
theorem step_crash (base g : Nat) (d : Dk) (v : Nat → Value) (dx : Dk) (x : Nat → Value) (f n : Int) (C : Option Addr) (b : List Nat) (m c : Nat) (w : World) (h : DiskAt w base g d v) (ho : d.Ok) (hx : RefAt (OwnD g v) w dx x) (hxo : dx.Ok) (hn : b.length = m) (hC : C = none → c = 0) (hc : m ≤ c) (hcm : c ≤ maxLen) (hb : Apart (OwnD g v) w C b) :
    Calls Try.prog 13 #[.pointer (some ⟨g, 0, none⟩), rV dx x, .agg (opC 5 f n C m c)] w (Stp base g v (crashD d f n) (crashD dx f n) (true) w) := by
  have HOK := hid ho
  have HXO := hid hxo
  have HN := hid hn
  have HC0 := hid hC
  have HCC := hid (And.intro hc hcm)
  have HB := hid hb
  have HBeg := hid (fun W hW => At3.begin (W := W) (oc := opC 5 f n C m c) h hx hb hW)
  clear h ho hx hxo hn hC hc hcm hb
  obtain ⟨d1, hd1⟩ : ∃ r, crashD d f n = r := ⟨_, rfl⟩
  obtain ⟨d2, hd2⟩ : ∃ r, crashD dx f n = r := ⟨_, rfl⟩
  rw [hd1, hd2]
  have HDo := hid (fun p W (S : At3 w W base g p d v v dx x (rC dx x) (opC 5 f n C m c) C b) => crash_any base g d v f n W S.disk HOK.out)
  rw [hd1] at HDo
  have HRo := hid (fun p v1 W (S : At3 w W base g p d1 v v1 dx x (rC dx x) (opC 5 f n C m c) C b) => refcrash_any (S := Away g p v1) dx x f n W S.ref S.lt HXO.out)
  rw [hd2] at HRo
  clear hd1 hd2
  go_enter Try.func13, Try.ntmps13
  go_upto_region 1 with fail
  obtain ⟨W, hW⟩ : ∃ W, ((w.alloc (.cells (rC dx x) 34)).alloc (.cells (opC 5 f n C m c) 30)).alloc (.cells #[.int .i64 0, .slice none 0 0, .slice none 0 0, .int .i64 0, .int .i64 0, .int .i64 0, .bool false] 34) = W := ⟨_, rfl⟩
  rw [hW]
  have S0 := hid (HBeg.out W hW)
  clear HBeg hW
  obtain ⟨p, hp⟩ : ∃ p, w.heap.size = p := ⟨_, rfl⟩
  rw [hp] at S0
  rw [hp]
  have HP := hid hp
  clear hp
  obtain ⟨c0, c1, c2, c3⟩ := op_cells4 S0.out.op
  go_wp2_with fail
  with_reducible refine (HDo.out _ _ S0.out).mono ?_
  intro e w1 hd
  obtain ⟨v1, rfl, q⟩ := S0.out.did hd
  have S1 := hid q
  clear q hd S0 c0 c1 c2 c3
  obtain ⟨c0, c1, c2, c3⟩ := op_cells4 S1.out.op
  have T1 := hid (rC_size dx x)
  have TB := hid S1.out.box.heap
  go_wp2_with (first
    | (with_reducible refine wpList_load_row (o := ⟨some 78, _, _, _, _, _⟩) rfl 34 (.tmp 4) rfl p rfl 34 (rC dx x) (0, 0) _ TB.out Try.underlying34 rfl T1.out ?_))
  with_reducible refine (HRo.out _ _ _ S1.out).mono ?_
  rintro e w2 ⟨x2, rfl, hr2, hb2⟩
  have S2 := hid (S1.out.told hb2 hr2)
  clear S1 hb2 hr2 c0 c1 c2 c3 TB T1
  have T1 : Hid ((rC dx x).size = (rC d2 x2).size) := hid rfl
  have T2 := hid (rC_size d2 x2)
  have T4 := hid (rC_one (d' := d2) S2.out.ref)
  have T5 : Hid (zrC.size = (rC d2 x2).size) := hid rfl
  have TB := hid S2.out.box.heap
  go_upto_region 18 with (first
    | (with_reducible refine wpList_store_row (o := ⟨none, _, _, _, _, _⟩) rfl 34 (.tmp 4) (.tmp 84) rfl p (rC d2 x2) rfl rfl 34 _ TB.out T2.out T1.out T4.out ?_))
  have S3 := hid (S2.out.put HP.out (rC d2 x2))
  obtain ⟨W3, hW3⟩ : ∃ W3, w2.setRow p (rC d2 x2) = W3 := ⟨_, rfl⟩
  rw [hW3] at S3
  rw [hW3]
  clear hW3 S2 TB T1
  have TB := hid S3.out.box.heap
  have TZ := hid S3.out.res.heap
  have HR := hid (S3.out.fin HP.out (rC d2 x2) (true))
  obtain ⟨d0, d1, d2', d3', d4, d5, d6⟩ := rcells (S3.out.res.rowE (cs' := rC d2 x2))
  clear S3
  go_wp2_with (first
    | (with_reducible refine wpList_load_row (o := ⟨some 85, _, _, _, _, _⟩) rfl 34 (.tmp 4) rfl p rfl 34 (rC d2 x2) (0, 0) _ TB.out Try.underlying34 rfl T2.out ?_)
    | (with_reducible refine wpList_store_row (o := ⟨none, _, _, _, _, _⟩) rfl 34 (.tmp 6) (.tmp 85) rfl (p + 1 + 1) (rC d2 x2) rfl rfl 34 _ TZ.out T2.out T5.out T4.out ?_))
  refine bodyPost_ret (v := .tuple #[.agg #[.int .i64 d2.sz, x2 0, x2 1, .int .i64 (d2.s 0 : Int), .int .i64 (d2.s 1 : Int), .int .i64 (unR d2), .bool d2.dn], .bool (true)]) (by simp [results, Try.results13, go_sem, d0, d1, d2', d3', d4, d5, d6]) rfl HR.out

set_option maxRecDepth 100000 in
set_option maxHeartbeats 4000000 in
theorem step_none (kd : Int) (hk1 : kd ≠ 1) (hk2 : kd ≠ 2) (hk3 : kd ≠ 3) (hk4 : kd ≠ 4) (hk5 : kd ≠ 5) (base g : Nat) (d : Dk) (v : Nat → Value) (dx : Dk) (x : Nat → Value) (f n : Int) (C : Option Addr) (b : List Nat) (m c : Nat) (w : World) (h : DiskAt w base g d v) (ho : d.Ok) (hx : RefAt (OwnD g v) w dx x) (hxo : dx.Ok) (hn : b.length = m) (hC : C = none → c = 0) (hc : m ≤ c) (hcm : c ≤ maxLen) (hb : Apart (OwnD g v) w C b) :
    Calls Try.prog 13 #[.pointer (some ⟨g, 0, none⟩), rV dx x, .agg (opC kd f n C m c)] w (Stp base g v d dx true w) := by
  have k1 : (kd == 1) = false := by simpa using hk1
  have k2 : (kd == 2) = false := by simpa using hk2
  have k3 : (kd == 3) = false := by simpa using hk3
  have k4 : (kd == 4) = false := by simpa using hk4
  have k5 : (kd == 5) = false := by simpa using hk5
  clear hk1 hk2 hk3 hk4 hk5
  have HOK := hid ho
  have HXO := hid hxo
  have HN := hid hn
  have HC0 := hid hC
  have HCC := hid (And.intro hc hcm)
  have HB := hid hb
  have HBeg := hid (fun W hW => At3.begin (W := W) (oc := opC kd f n C m c) h hx hb hW)
  clear h ho hx hxo hn hC hc hcm hb
  go_enter Try.func13, Try.ntmps13
  go_upto_region 1 with fail
  obtain ⟨W, hW⟩ : ∃ W, ((w.alloc (.cells (rC dx x) 34)).alloc (.cells (opC kd f n C m c) 30)).alloc (.cells #[.int .i64 0, .slice none 0 0, .slice none 0 0, .int .i64 0, .int .i64 0, .int .i64 0, .bool false] 34) = W := ⟨_, rfl⟩
  rw [hW]
  have S0 := hid (HBeg.out W hW)
  clear HBeg hW
  obtain ⟨p, hp⟩ : ∃ p, w.heap.size = p := ⟨_, rfl⟩
  rw [hp] at S0
  rw [hp]
  have HP := hid hp
  clear hp
  obtain ⟨c0, c1, c2, c3⟩ := op_cells4 S0.out.op
  go_upto_region 18 with fail
  have S3 := S0
  clear S0 c0 c1 c2 c3
  have T2 := hid (rC_size dx x)
  have T4 := hid (rC_one (d' := dx) S3.out.ref)
  have T5 : Hid (zrC.size = (rC dx x).size) := hid rfl
  have TB := hid S3.out.box.heap
  have TZ := hid S3.out.res.heap
  have HR := hid (S3.out.fin HP.out (rC dx x) (true))
  obtain ⟨d0, d1, d2', d3', d4, d5, d6⟩ := rcells (S3.out.res.rowE (cs' := rC dx x))
  clear S3
  go_wp2_with (first
    | (with_reducible refine wpList_load_row (o := ⟨some 85, _, _, _, _, _⟩) rfl 34 (.tmp 4) rfl p rfl 34 (rC dx x) (0, 0) _ TB.out Try.underlying34 rfl T2.out ?_)
    | (with_reducible refine wpList_store_row (o := ⟨none, _, _, _, _, _⟩) rfl 34 (.tmp 6) (.tmp 85) rfl (p + 1 + 1) (rC dx x) rfl rfl 34 _ TZ.out T2.out T5.out T4.out ?_))
  refine bodyPost_ret (v := .tuple #[.agg #[.int .i64 dx.sz, x 0, x 1, .int .i64 (dx.s 0 : Int), .int .i64 (dx.s 1 : Int), .int .i64 (unR dx), .bool dx.dn], .bool (true)]) (by simp [results, Try.results13, go_sem, d0, d1, d2', d3', d4, d5, d6]) rfl HR.out


/-- What a step of this kind leaves, and tells. -/
def stepD (d : Dk) (kd f n : Int) (b : List Nat) : Dk × Int :=
  if kd = 1 then appD d f b else if kd = 2 then syncD d f else if kd = 3 then trimD d f n else if kd = 4 then (armD d n, 0) else if kd = 5 then (crashD d f n, 0) else (d, 0)
theorem stepD_ok {d : Dk} (h : d.Ok) (kd f : Int) {n : Int} (hn : n ≤ 9223372036854775807) (b : List Nat) : (stepD d kd f n b).1.Ok := by
  unfold stepD
  split
  · exact appD_ok h f b
  · split
    · exact syncD_ok h f
    · split
      · exact trimD_ok h f n
      · split
        · exact armD_ok h hn
        · split
          · exact crashD_ok h f n
          · exact h

theorem step_any (kd : Int) (base g : Nat) (d : Dk) (v : Nat → Value) (dx : Dk) (x : Nat → Value) (f n : Int) (C : Option Addr) (b : List Nat) (m c : Nat) (w : World) (h : DiskAt w base g d v) (ho : d.Ok) (hx : RefAt (OwnD g v) w dx x) (hxo : dx.Ok) (hn : b.length = m) (hC : C = none → c = 0) (hc : m ≤ c) (hcm : c ≤ maxLen) (hb : Apart (OwnD g v) w C b) :
    Calls Try.prog 13 #[.pointer (some ⟨g, 0, none⟩), rV dx x, .agg (opC kd f n C m c)] w (Stp base g v (stepD d kd f n b).1 (stepD dx kd f n b).1 ((stepD d kd f n b).2 == (stepD dx kd f n b).2) w) := by
  by_cases k1 : kd = 1
  · subst k1
    exact step_app base g d v dx x f n C b m c w h ho hx hxo hn hC hc hcm hb
  by_cases k2 : kd = 2
  · subst k2
    exact step_sync base g d v dx x f n C b m c w h ho hx hxo hn hC hc hcm hb
  by_cases k3 : kd = 3
  · subst k3
    exact step_trim base g d v dx x f n C b m c w h ho hx hxo hn hC hc hcm hb
  by_cases k4 : kd = 4
  · subst k4
    exact step_arm base g d v dx x f n C b m c w h ho hx hxo hn hC hc hcm hb
  by_cases k5 : kd = 5
  · subst k5
    exact step_crash base g d v dx x f n C b m c w h ho hx hxo hn hC hc hcm hb
  have e : ∀ d', stepD d' kd f n b = (d', 0) := fun d' => by unfold stepD; rw [if_neg k1, if_neg k2, if_neg k3, if_neg k4, if_neg k5]
  rw [e, e]
  exact step_none kd k1 k2 k3 k4 k5 base g d v dx x f n C b m c w h ho hx hxo hn hC hc hcm hb

end Go.Proofs.Ytmedfcpohmhbbaa
