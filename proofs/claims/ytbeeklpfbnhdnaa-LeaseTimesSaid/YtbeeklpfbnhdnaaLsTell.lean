/-
  The contracts of lease's set, Info, Told, Room.
-/
import Derived.Test.YtbeeklpfbnhdnaaLsBook
namespace Go.Proofs.Ytbeeklpfbnhdnaa
open Go.ChangeShapes Go.WideShapes Go.ChangeAt Go.RowKit Go.Maps Go.WideMaps
set_option linter.unusedVariables false
set_option linter.unusedSimpArgs false

/-- A store, in whatever world holds the map. -/
theorem SsM.put_all {w : World} {b n : Nat} {l : List SeL} (h : SsM w b n l) (hn : n < maxLen) (s : SeL) (hl : KeysL l) (hr : RiseL l) (hu : IsU s.num) (hf : OkF s.foot) :
    ∃ U : World → World, ∀ w', w'.heap[b]? = w.heap[b]? → (Instr.mapUpdate 75 (.map (some b)) (sesV s.num s.foot) (.agg (cellsL s))).run Try.prog w' = .ok () (U w') ∧ SsM (U w') b (n + 1) (putL s l) ∧ w'.grownBy (U w') (some b) := by
  classical
  refine ⟨fun w' => if e : w'.heap[b]? = w.heap[b]? then ((h.same e).put hn s hl hr hu hf).choose else w', fun w' e => ?_⟩
  simp only [dif_pos e]
  exact ((h.same e).put hn s hl hr hu hf).choose_spec

set_option maxRecDepth 100000 in
set_option maxHeartbeats 4000000 in
theorem lset_any (b d n : Nat) (l : List SeL) (s : SeL) (w : World) (hb : Blk w b 77 #[.map (some d)]) (hm : SsM w d n l) (hn : n < maxLen) (hk : KeysL l) (hr : RiseL l) (hu : IsU s.num) (hf : OkF s.foot) :
    Calls Try.prog 40 #[.pointer (some ⟨b, 0, none⟩), sesV s.num s.foot, .agg (cellsL s)] w fun e w' => e = .returned (.tuple #[]) ∧ SsM w' d (n + 1) (putL s l) ∧ TurnsD (fun i => i = d) w w' := by
  have HB := hid hb
  have HM := hid hm
  obtain ⟨U, hU⟩ := hm.put_all hn s hk hr hu hf
  have HU := hid hU
  have HC := hid (fun w => sclone_any s.foot w hf.le)
  obtain ⟨num, foot, opn, dead, dl, ttl, told, m⟩ := s
  obtain ⟨tn, htn⟩ : ∃ x : Int, (told.length : Int) = x := ⟨_, rfl⟩
  simp only [cellsL] at HU HC ⊢
  rw [htn] at HU ⊢
  clear hb hm hU hn hk hr hu hf htn
  go_enter Try.func40, Try.ntmps40
  go_upto_region 1 with fail
  obtain ⟨W, hW⟩ : ∃ W, (w.alloc (.cells #[.int .u64 num, .string foot] 25)).alloc (.cells #[.bool opn, .bool dead, .int .i64 dl, .int .i64 ttl, .int .i64 tn, .map m] 89) = W := ⟨_, rfl⟩
  rw [hW]
  obtain ⟨K0, K1, KB⟩ := ltwo_new hW
  clear hW
  obtain ⟨k, hk⟩ : ∃ k, w.heap.size = k := ⟨_, rfl⟩
  have hbk : b < k ∧ d < k := by rw [← hk]; exact ⟨HB.out.lt, HM.out.lt⟩
  have HB1 := hid (HB.out.below KB.out HB.out.lt)
  have HM1 : Hid (W.heap[d]? = w.heap[d]?) := hid (KB.out.block d HM.out.lt)
  have KL := hid K1.out.lt
  rw [hk] at K0 K1 KB KL ⊢
  have HK := hid hk
  clear hk
  have c0 : W.cell? ⟨k, 1, none⟩ = some (.string foot) := (K0.out.cell 1).trans rfl
  go_upto_region 2 with (first
    | (go_at_call 48; (with_reducible refine (HC.out _).mono ?_); rintro e w1 ⟨rfl, hb1⟩; have K2 := hid (K0.out.below hb1 K0.out.lt); have K3 := hid (K1.out.below hb1 K1.out.lt); have HB2 := hid (HB1.out.below hb1 HB1.out.lt); have HM2 := hid ((hb1.block d (by have := KL.out; omega)).trans HM1.out); have KB2 := hid (KB.out.trans (hb1.mono (by have := KL.out; omega))); clear hb1; have f1 := K2.out.frozen 1; have g1 : w1.cell? ⟨k, 1, none⟩ = some (.string foot) := (K2.out.cell 1).trans rfl))
  obtain ⟨w2, hw2⟩ : ∃ w2, w1.setCell ⟨k, 1, none⟩ (.string foot) = w2 := ⟨_, rfl⟩
  have K4 := hid (K2.out.set_ 1 (.string foot))
  have K5 := hid (K3.out.far (p := ⟨k, 1, none⟩) (by simp) (.string foot))
  have HB3 := hid (HB2.out.far (p := ⟨k, 1, none⟩) (by simp; omega) (.string foot))
  have HM3 : Hid ((w1.setCell ⟨k, 1, none⟩ (.string foot)).heap[d]? = w.heap[d]?) := hid ((Below.heap_setCell w1 _ _ d (by simp; omega)).trans HM2.out)
  have T3 : Hid (Below k w (w1.setCell ⟨k, 1, none⟩ (.string foot))) := hid (KB2.out.setCell (p := ⟨k, 1, none⟩) (Nat.le_refl _) _)
  rw [hw2] at K4 K5 HB3 HM3 T3 ⊢
  clear hw2 c0 f1 g1 K2 K3 HB2 HM2 KB2 K0 K1 HB1 HM1 KB HC
  simp only [List.setIfInBounds_toArray, List.set_cons_succ, List.set_cons_zero] at K4
  obtain ⟨r1, r2, r3⟩ := HU.out w2.drew HM3.out
  have R2 := hid (And.intro r2 r3)
  have q0 : w2.drew.cell? ⟨b, 0, none⟩ = some (.map (some d)) := (HB3.out.drew.cell 0).trans rfl
  clear r2 r3 HU
  obtain ⟨c0, c1⟩ := lcells2 K4.out
  obtain ⟨d0, d1, d2, d3, d4, d5⟩ := lcells6 K5.out
  go_still_tail 6, (by kernel_rfl)
  go_wp2
  go_end0
  exact ⟨rfl, R2.out.1, ((TurnsD.of_below (by rw [HK.out]; exact T3.out)).drew).trans (TurnsD.of_grown (S := fun i => i = d) R2.out.2 (fun x e => by injection e with e; exact e.symm)) (fun _ _ e => e)⟩

abbrev infoV (s : SeL) : Value := .agg #[.bool s.opn, .bool s.dead, .int .i64 s.dl, .int .i64 s.ttl, .int .i64 (s.told.length : Int)]
theorem lfield_info (a b : Bool) (c e g : Int) (m : Option Nat) (w : World) : (Instr.field 89 (.agg #[.bool a, .bool b, .int .i64 c, .int .i64 e, .int .i64 g, .map m]) 0).run Try.prog w = .ok (.agg #[.bool a, .bool b, .int .i64 c, .int .i64 e, .int .i64 g]) w := by kernel_rfl
theorem lfield_ans (a b : Bool) (c e g : Int) (m : Option Nat) (w : World) : (Instr.field 89 (.agg #[.bool a, .bool b, .int .i64 c, .int .i64 e, .int .i64 g, .map m]) 1).run Try.prog w = .ok (.map m) w := by kernel_rfl
theorem lfield_served (a b : Bool) (c e g : Int) (w : World) : (Instr.field 58 (.agg #[.bool a, .bool b, .int .i64 c, .int .i64 e, .int .i64 g]) 4).run Try.prog w = .ok (.int .i64 g) w := by kernel_rfl
/-- A look-up of a book's, in whatever world holds its map. -/
theorem SsM.look_all {w : World} {d n : Nat} {l : List SeL} (h : SsM w d n l) {u : Int} {f : ByteArray} (hu : IsU u) (hf : OkF f) :
    ∀ w', w'.heap[d]? = w.heap[d]? → (Instr.lookup 75 (.map (some d)) (sesV u f) false).run Try.prog w' = .ok (.agg (cellsL (getL l u f))) w' := fun w' e => (h.same e).look hu hf

set_option maxRecDepth 100000 in
set_option maxHeartbeats 4000000 in
theorem linfo_any (base b d n : Nat) (l : List SeL) (u : Int) (f : ByteArray) (w : World) (h : BkAt w base b d n l) (hu : IsU u) (hf : OkF f) :
    Calls Try.prog 18 #[.pointer (some ⟨b, 0, none⟩), sesV u f] w fun e w' => e = .returned (infoV (getL l u f)) ∧ Below w.heap.size w w' := by
  have HB := hid h.blk
  have HL := hid h.lt
  have HU := hid (h.map.look_all hu hf)
  obtain ⟨s, hs⟩ : ∃ s, getL l u f = s := ⟨_, rfl⟩
  rw [hs] at HU ⊢
  clear hs h hu hf
  obtain ⟨num, foot, opn, dead, dl, ttl, told, m⟩ := s
  obtain ⟨tn, htn⟩ : ∃ x : Int, (told.length : Int) = x := ⟨_, rfl⟩
  simp only [cellsL, infoV] at HU ⊢
  rw [htn] at HU ⊢
  clear htn
  obtain ⟨ci, hci⟩ : ∃ c, (#[.bool opn, .bool dead, .int .i64 dl, .int .i64 ttl, .int .i64 tn] : Array Value) = c := ⟨_, rfl⟩
  have HF := hid (lfield_info opn dead dl ttl tn m)
  rw [hci] at HF ⊢
  have I1 : Hid ((Try.prog.info? 58).map (·.size) = some ci.size) := hid (by rw [← hci]; kernel_rfl)
  have HS : Hid (5 = ci.size ∧ ci.all (·.oneCell') = true) := hid (by rw [← hci]; exact ⟨rfl, by simp [Value.oneCell']⟩)
  clear hci
  go_enter Try.func18, Try.ntmps18
  go_upto_region 1 with fail
  obtain ⟨W, hW⟩ : ∃ W, (w.alloc (.cells #[.int .u64 u, .string f] 25)).alloc (.cells #[.bool false, .bool false, .int .i64 0, .int .i64 0, .int .i64 0] 58) = W := ⟨_, rfl⟩
  rw [hW]
  obtain ⟨K0, K1, KB⟩ := ltwo_new hW
  clear hW
  obtain ⟨k, hk⟩ : ∃ k, w.heap.size = k := ⟨_, rfl⟩
  rw [hk] at K0 K1 KB HL ⊢
  have hbk := HL.out
  have HB1 := hid (HB.out.below KB.out hbk.1)
  have q0 : W.drew.cell? ⟨b, 0, none⟩ = some (.map (some d)) := (HB1.out.drew.cell 0).trans rfl
  have q1 := HU.out W.drew (KB.out.block d hbk.2)
  obtain ⟨c0, c1⟩ := lcells2 K0.out
  have q2 := HF.out W.drew
  have hst := lstore_cells (P := Try.prog) K1.out.drew ci HS.out.1 HS.out.2
  have J1 := hid (And.intro I1.out K1.out.drew)
  have hz : ci.size = 5 := HS.out.1.symm
  have KB2 : Hid (Below k w W.drew) := hid (below_drew KB.out)
  go_still_tail 7, (by kernel_rfl)
  go_wp2
  refine bodyPost_ret (v := .agg ci) (results_cell_row (p := 4) (ty := 58) (by kernel_rfl) _ _ (k + 1) 58 ci (0, 0) _ rfl (setRow_heap _ (k + 1) _ _ _ _ J1.out.2.heap) Try.underlying58 rfl J1.out.1) rfl ⟨rfl, (by rw [hk]; exact lbelow_setRow KB2.out (by omega))⟩

def roomL (s : SeL) : Bool := decide (s.told.length < 256)
theorem lroom_any (base b d n : Nat) (l : List SeL) (u : Int) (f : ByteArray) (w : World) (h : BkAt w base b d n l) (hu : IsU u) (hf : OkF f) :
    Calls Try.prog 26 #[.pointer (some ⟨b, 0, none⟩), sesV u f] w fun e w' => e = .returned (.bool (roomL (getL l u f))) ∧ Below w.heap.size w w' := by
  have HI := hid (fun w' (k : Below w.heap.size w w') => linfo_any base b d n l u f w' (h.on k) hu hf)
  clear h hu hf
  obtain ⟨s, hs⟩ : ∃ s, getL l u f = s := ⟨_, rfl⟩
  rw [hs] at HI ⊢
  clear hs
  obtain ⟨tn, htn⟩ : ∃ x, s.told.length = x := ⟨_, rfl⟩
  unfold roomL
  simp only [infoV] at HI
  rw [htn] at HI ⊢
  clear htn
  have q2 := fun w => lfield_served s.opn s.dead s.dl s.ttl (tn : Int) w
  have HD : Hid (decide ((tn : Int) < 256) = decide (tn < 256)) := hid (by rw [decide_eq_decide]; omega)
  go_enter Try.func26, Try.ntmps26
  go_upto_region 1 with fail
  obtain ⟨W, hW⟩ : ∃ W, w.alloc (.cells #[.int .u64 u, .string f] 25) = W := ⟨_, rfl⟩
  rw [hW]
  obtain ⟨K0, KB⟩ := lone_new hW
  clear hW
  obtain ⟨c0, c1⟩ := lcells2 K0.out
  go_wp2_with (first
    | (go_at_call 18; (with_reducible refine (HI.out _ KB.out).mono ?_); rintro e w1 ⟨rfl, hb1⟩; have HB1 := hid (below_on KB.out hb1); clear hb1))
  go_ret
  exact ⟨ret_bool HD.out, HB1.out⟩
end Go.Proofs.Ytbeeklpfbnhdnaa
