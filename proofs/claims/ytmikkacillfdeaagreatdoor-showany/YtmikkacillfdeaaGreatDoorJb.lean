/- Joined: Rla, Rst, Rin. -/
import Derived.Test.YtmikkacillfdeaaGreatDoorJa


/- parse.reader: last. Written by mkrd.py. -/
set_option linter.unusedSimpArgs false
set_option linter.unusedVariables false
namespace Go.Proofs.YtmikkacillfdeaaGreatDoor
open Go.RowKit Go.Sort

def lastA (l : Int × Int × Int × Int) : Value := .agg (lsC l.1 l.2.1 l.2.2.1 l.2.2.2)
set_option maxRecDepth 100000 in
set_option maxHeartbeats 8000000 in
theorem last_jump {rb g c : Nat} {ts : List Ev} {st : RS} {w : World} (h : RdAt w rb g c ts st) (ht : Tks ts) (hw : WordsH w) (hne : 1 ≠ rb) (hy : hasB sJump ts st = true) : RC 57 [] rb g c ts (lastA (0, 0, (tkV 3 ts st.on), 0)) (tkS 3 ts st.on) w := by
  have L := hid (MW.start (T := 44) h hw hne (lsC 0 0 0 0) (lsC 0 0 0 0))
  have HY : Hid (hasB ⟨#[106, 117, 109, 112]⟩ ts st = true ∧ hasS ⟨#[106, 117, 109, 112]⟩ ts st = st.on) := has_t hy
  clear h hw hne hy
  unfold RC
  go_enter Tryz.func57, Tryz.ntmps57
  go_wp2_with (first
    | (go_at_call 68; refine (has_go _ (by decide) L.out.r ht).mono ?_; (first | rw [HY.out.1, HY.out.2]); rintro e W ⟨rfl, t1, r1⟩; have L := hid (L.out.call t1 r1); clear t1 r1; (try clear l0 l1 l2 l3 z0 z1 z2 z3 lf zf ll); obtain ⟨l0, l1, l2, l3⟩ := L.out.ls; obtain ⟨z0, z1, z2, z3⟩ := L.out.lsz; have lf := L.out.fz; have zf := L.out.fzz; have ll := L.out.ll)
    | (go_at_call 53; have L := hid (L.out.set (lc' := lsC 0 0 0 0) 0 (.int .u8 0) rfl); refine (label_rc L.out.r ht).mono ?_; rintro e W ⟨rfl, t1, r1⟩; have L := hid (L.out.call t1 r1); clear t1 r1; (try clear l0 l1 l2 l3 z0 z1 z2 z3 lf zf ll); obtain ⟨l0, l1, l2, l3⟩ := L.out.ls; obtain ⟨z0, z1, z2, z3⟩ := L.out.lsz; have lf := L.out.fz; have zf := L.out.fzz; have ll := L.out.ll))
  have F := L.out |>.set (lc' := lsC 0 0 (tkV 3 ts st.on) 0) 2 (.int .i64 (tkV 3 ts st.on)) rfl |>.setz (zc' := lsC 0 0 0 0) 0 (.int .u8 0) rfl |>.setz (zc' := lsC 0 0 0 0) 1 (.int .i64 0) rfl |>.setz (zc' := lsC 0 0 (tkV 3 ts st.on) 0) 2 (.int .i64 (tkV 3 ts st.on)) rfl |>.setz (zc' := lsC 0 0 (tkV 3 ts st.on) 0) 3 (.int .i64 0) rfl
  obtain ⟨q0, q1, q2, q3⟩ := F.lsz
  refine bodyPost_ret (v := lastA (0, 0, (tkV 3 ts st.on), 0)) (by simp [results, Tryz.results57, go_sem, lastA, lsC, q0, q1, q2, q3]) rfl ⟨rfl, F.t, F.r⟩
set_option maxRecDepth 100000 in
set_option maxHeartbeats 8000000 in
theorem last_br {rb g c : Nat} {ts : List Ev} {st : RS} {w : World} (h : RdAt w rb g c ts st) (ht : Tks ts) (hw : WordsH w) (hne : 1 ≠ rb) (hJump : hasB sJump ts st = false) (hy : hasB sBr ts st = true) : RC 57 [] rb g c ts (lastA (1, (tkV 2 ts st.on), (tkV 3 ts (signS comma ts (tkS 2 ts st.on))), (tkV 3 ts (signS comma ts (tkS 3 ts (signS comma ts (tkS 2 ts st.on))))))) (tkS 3 ts (signS comma ts (tkS 3 ts (signS comma ts (tkS 2 ts st.on))))) w := by
  have L := hid (MW.start (T := 44) h hw hne (lsC 0 0 0 0) (lsC 0 0 0 0))
  have HJump : Hid (hasB ⟨#[106, 117, 109, 112]⟩ ts st = false ∧ hasS ⟨#[106, 117, 109, 112]⟩ ts st = st) := has_f hJump
  have HY : Hid (hasB ⟨#[98, 114]⟩ ts st = true ∧ hasS ⟨#[98, 114]⟩ ts st = st.on) := has_t hy
  clear h hw hne hJump hy
  unfold RC
  go_enter Tryz.func57, Tryz.ntmps57
  go_wp2_with (first
    | (go_at_call 68; refine (has_go _ (by decide) L.out.r ht).mono ?_; (first | rw [HJump.out.1, HJump.out.2] | rw [HY.out.1, HY.out.2]); rintro e W ⟨rfl, t1, r1⟩; have L := hid (L.out.call t1 r1); clear t1 r1; (try clear l0 l1 l2 l3 z0 z1 z2 z3 lf zf ll); obtain ⟨l0, l1, l2, l3⟩ := L.out.ls; obtain ⟨z0, z1, z2, z3⟩ := L.out.lsz; have lf := L.out.fz; have zf := L.out.fzz; have ll := L.out.ll)
    | (go_at_call 71; have L := hid (L.out.set (lc' := lsC 1 0 0 0) 0 (.int .u8 1) rfl); refine (reg_rc L.out.r ht).mono ?_; rintro e W ⟨rfl, t1, r1⟩; have L := hid (L.out.call t1 r1); clear t1 r1; (try clear l0 l1 l2 l3 z0 z1 z2 z3 lf zf ll); obtain ⟨l0, l1, l2, l3⟩ := L.out.ls; obtain ⟨z0, z1, z2, z3⟩ := L.out.lsz; have lf := L.out.fz; have zf := L.out.fzz; have ll := L.out.ll)
    | (go_at_call 54; have L := hid (MW.set (st := (tkS 2 ts st.on)) (lc' := lsC 1 (tkV 2 ts st.on) 0 0) L.out 1 (.int .i64 (tkV 2 ts st.on)) rfl); refine (sign_go comma (by decide) L.out.r ht).mono ?_; rintro e W ⟨rfl, t1, r1⟩; have L := hid (L.out.call t1 r1); clear t1 r1; (try clear l0 l1 l2 l3 z0 z1 z2 z3 lf zf ll); obtain ⟨l0, l1, l2, l3⟩ := L.out.ls; obtain ⟨z0, z1, z2, z3⟩ := L.out.lsz; have lf := L.out.fz; have zf := L.out.fzz; have ll := L.out.ll)
    | (go_at_call 54; have L := hid (MW.set (st := (tkS 3 ts (signS comma ts (tkS 2 ts st.on)))) (lc' := lsC 1 (tkV 2 ts st.on) (tkV 3 ts (signS comma ts (tkS 2 ts st.on))) 0) L.out 2 (.int .i64 (tkV 3 ts (signS comma ts (tkS 2 ts st.on)))) rfl); refine (sign_go comma (by decide) L.out.r ht).mono ?_; rintro e W ⟨rfl, t1, r1⟩; have L := hid (L.out.call t1 r1); clear t1 r1; (try clear l0 l1 l2 l3 z0 z1 z2 z3 lf zf ll); obtain ⟨l0, l1, l2, l3⟩ := L.out.ls; obtain ⟨z0, z1, z2, z3⟩ := L.out.lsz; have lf := L.out.fz; have zf := L.out.fzz; have ll := L.out.ll)
    | (go_at_call 53; refine (label_rc L.out.r ht).mono ?_; rintro e W ⟨rfl, t1, r1⟩; have L := hid (L.out.call t1 r1); clear t1 r1; (try clear l0 l1 l2 l3 z0 z1 z2 z3 lf zf ll); obtain ⟨l0, l1, l2, l3⟩ := L.out.ls; obtain ⟨z0, z1, z2, z3⟩ := L.out.lsz; have lf := L.out.fz; have zf := L.out.fzz; have ll := L.out.ll))
  have F := L.out |>.set (lc' := lsC 1 (tkV 2 ts st.on) (tkV 3 ts (signS comma ts (tkS 2 ts st.on))) (tkV 3 ts (signS comma ts (tkS 3 ts (signS comma ts (tkS 2 ts st.on)))))) 3 (.int .i64 (tkV 3 ts (signS comma ts (tkS 3 ts (signS comma ts (tkS 2 ts st.on)))))) rfl |>.setz (zc' := lsC 1 0 0 0) 0 (.int .u8 1) rfl |>.setz (zc' := lsC 1 (tkV 2 ts st.on) 0 0) 1 (.int .i64 (tkV 2 ts st.on)) rfl |>.setz (zc' := lsC 1 (tkV 2 ts st.on) (tkV 3 ts (signS comma ts (tkS 2 ts st.on))) 0) 2 (.int .i64 (tkV 3 ts (signS comma ts (tkS 2 ts st.on)))) rfl |>.setz (zc' := lsC 1 (tkV 2 ts st.on) (tkV 3 ts (signS comma ts (tkS 2 ts st.on))) (tkV 3 ts (signS comma ts (tkS 3 ts (signS comma ts (tkS 2 ts st.on)))))) 3 (.int .i64 (tkV 3 ts (signS comma ts (tkS 3 ts (signS comma ts (tkS 2 ts st.on)))))) rfl
  obtain ⟨q0, q1, q2, q3⟩ := F.lsz
  refine bodyPost_ret (v := lastA (1, (tkV 2 ts st.on), (tkV 3 ts (signS comma ts (tkS 2 ts st.on))), (tkV 3 ts (signS comma ts (tkS 3 ts (signS comma ts (tkS 2 ts st.on))))))) (by simp [results, Tryz.results57, go_sem, lastA, lsC, q0, q1, q2, q3]) rfl ⟨rfl, F.t, F.r⟩
set_option maxRecDepth 100000 in
set_option maxHeartbeats 8000000 in
theorem last_ret {rb g c : Nat} {ts : List Ev} {st : RS} {w : World} (h : RdAt w rb g c ts st) (ht : Tks ts) (hw : WordsH w) (hne : 1 ≠ rb) (hJump : hasB sJump ts st = false) (hBr : hasB sBr ts st = false) (hy : hasB sRet ts st = true) : RC 57 [] rb g c ts (lastA (2, (tkV 2 ts st.on), 0, 0)) (tkS 2 ts st.on) w := by
  have L := hid (MW.start (T := 44) h hw hne (lsC 0 0 0 0) (lsC 0 0 0 0))
  have HJump : Hid (hasB ⟨#[106, 117, 109, 112]⟩ ts st = false ∧ hasS ⟨#[106, 117, 109, 112]⟩ ts st = st) := has_f hJump
  have HBr : Hid (hasB ⟨#[98, 114]⟩ ts st = false ∧ hasS ⟨#[98, 114]⟩ ts st = st) := has_f hBr
  have HY : Hid (hasB ⟨#[114, 101, 116]⟩ ts st = true ∧ hasS ⟨#[114, 101, 116]⟩ ts st = st.on) := has_t hy
  clear h hw hne hJump hBr hy
  unfold RC
  go_enter Tryz.func57, Tryz.ntmps57
  go_wp2_with (first
    | (go_at_call 68; refine (has_go _ (by decide) L.out.r ht).mono ?_; (first | rw [HJump.out.1, HJump.out.2] | rw [HBr.out.1, HBr.out.2] | rw [HY.out.1, HY.out.2]); rintro e W ⟨rfl, t1, r1⟩; have L := hid (L.out.call t1 r1); clear t1 r1; (try clear l0 l1 l2 l3 z0 z1 z2 z3 lf zf ll); obtain ⟨l0, l1, l2, l3⟩ := L.out.ls; obtain ⟨z0, z1, z2, z3⟩ := L.out.lsz; have lf := L.out.fz; have zf := L.out.fzz; have ll := L.out.ll)
    | (go_at_call 71; have L := hid (L.out.set (lc' := lsC 2 0 0 0) 0 (.int .u8 2) rfl); refine (reg_rc L.out.r ht).mono ?_; rintro e W ⟨rfl, t1, r1⟩; have L := hid (L.out.call t1 r1); clear t1 r1; (try clear l0 l1 l2 l3 z0 z1 z2 z3 lf zf ll); obtain ⟨l0, l1, l2, l3⟩ := L.out.ls; obtain ⟨z0, z1, z2, z3⟩ := L.out.lsz; have lf := L.out.fz; have zf := L.out.fzz; have ll := L.out.ll))
  have F := L.out |>.set (lc' := lsC 2 (tkV 2 ts st.on) 0 0) 1 (.int .i64 (tkV 2 ts st.on)) rfl |>.setz (zc' := lsC 2 0 0 0) 0 (.int .u8 2) rfl |>.setz (zc' := lsC 2 (tkV 2 ts st.on) 0 0) 1 (.int .i64 (tkV 2 ts st.on)) rfl |>.setz (zc' := lsC 2 (tkV 2 ts st.on) 0 0) 2 (.int .i64 0) rfl |>.setz (zc' := lsC 2 (tkV 2 ts st.on) 0 0) 3 (.int .i64 0) rfl
  obtain ⟨q0, q1, q2, q3⟩ := F.lsz
  refine bodyPost_ret (v := lastA (2, (tkV 2 ts st.on), 0, 0)) (by simp [results, Tryz.results57, go_sem, lastA, lsC, q0, q1, q2, q3]) rfl ⟨rfl, F.t, F.r⟩
set_option maxRecDepth 100000 in
set_option maxHeartbeats 8000000 in
theorem last_trap {rb g c : Nat} {ts : List Ev} {st : RS} {w : World} (h : RdAt w rb g c ts st) (ht : Tks ts) (hw : WordsH w) (hne : 1 ≠ rb) (hJump : hasB sJump ts st = false) (hBr : hasB sBr ts st = false) (hRet : hasB sRet ts st = false) (hy : hasB sTrap ts st = true) : RC 57 [] rb g c ts (lastA (3, 0, 0, 0)) st.on w := by
  have L := hid (MW.start (T := 44) h hw hne (lsC 0 0 0 0) (lsC 0 0 0 0))
  have HJump : Hid (hasB ⟨#[106, 117, 109, 112]⟩ ts st = false ∧ hasS ⟨#[106, 117, 109, 112]⟩ ts st = st) := has_f hJump
  have HBr : Hid (hasB ⟨#[98, 114]⟩ ts st = false ∧ hasS ⟨#[98, 114]⟩ ts st = st) := has_f hBr
  have HRet : Hid (hasB ⟨#[114, 101, 116]⟩ ts st = false ∧ hasS ⟨#[114, 101, 116]⟩ ts st = st) := has_f hRet
  have HY : Hid (hasB ⟨#[116, 114, 97, 112]⟩ ts st = true ∧ hasS ⟨#[116, 114, 97, 112]⟩ ts st = st.on) := has_t hy
  clear h hw hne hJump hBr hRet hy
  unfold RC
  go_enter Tryz.func57, Tryz.ntmps57
  go_wp2_with (first
    | (go_at_call 68; refine (has_go _ (by decide) L.out.r ht).mono ?_; (first | rw [HJump.out.1, HJump.out.2] | rw [HBr.out.1, HBr.out.2] | rw [HRet.out.1, HRet.out.2] | rw [HY.out.1, HY.out.2]); rintro e W ⟨rfl, t1, r1⟩; have L := hid (L.out.call t1 r1); clear t1 r1; (try clear l0 l1 l2 l3 z0 z1 z2 z3 lf zf ll); obtain ⟨l0, l1, l2, l3⟩ := L.out.ls; obtain ⟨z0, z1, z2, z3⟩ := L.out.lsz; have lf := L.out.fz; have zf := L.out.fzz; have ll := L.out.ll))
  have F := L.out |>.set (lc' := lsC 3 0 0 0) 0 (.int .u8 3) rfl |>.setz (zc' := lsC 3 0 0 0) 0 (.int .u8 3) rfl |>.setz (zc' := lsC 3 0 0 0) 1 (.int .i64 0) rfl |>.setz (zc' := lsC 3 0 0 0) 2 (.int .i64 0) rfl |>.setz (zc' := lsC 3 0 0 0) 3 (.int .i64 0) rfl
  obtain ⟨q0, q1, q2, q3⟩ := F.lsz
  refine bodyPost_ret (v := lastA (3, 0, 0, 0)) (by simp [results, Tryz.results57, go_sem, lastA, lsC, q0, q1, q2, q3]) rfl ⟨rfl, F.t, F.r⟩
set_option maxRecDepth 100000 in
set_option maxHeartbeats 8000000 in
theorem last_none {rb g c : Nat} {ts : List Ev} {st : RS} {w : World} (h : RdAt w rb g c ts st) (ht : Tks ts) (hw : WordsH w) (hne : 1 ≠ rb) (hJump : hasB sJump ts st = false) (hBr : hasB sBr ts st = false) (hRet : hasB sRet ts st = false) (hTrap : hasB sTrap ts st = false) : RC 57 [] rb g c ts (lastA (0, 0, 0, 0)) (failS ts (curE ts st) st) w := by
  have L := hid (MW.start (T := 44) h hw hne (lsC 0 0 0 0) (lsC 0 0 0 0))
  have HJump : Hid (hasB ⟨#[106, 117, 109, 112]⟩ ts st = false ∧ hasS ⟨#[106, 117, 109, 112]⟩ ts st = st) := has_f hJump
  have HBr : Hid (hasB ⟨#[98, 114]⟩ ts st = false ∧ hasS ⟨#[98, 114]⟩ ts st = st) := has_f hBr
  have HRet : Hid (hasB ⟨#[114, 101, 116]⟩ ts st = false ∧ hasS ⟨#[114, 101, 116]⟩ ts st = st) := has_f hRet
  have HTrap : Hid (hasB ⟨#[116, 114, 97, 112]⟩ ts st = false ∧ hasS ⟨#[116, 114, 97, 112]⟩ ts st = st) := has_f hTrap
  clear h hw hne hJump hBr hRet hTrap
  unfold RC
  go_enter Tryz.func57, Tryz.ntmps57
  go_wp2_with (first
    | (go_at_call 68; refine (has_go _ (by decide) L.out.r ht).mono ?_; (first | rw [HJump.out.1, HJump.out.2] | rw [HBr.out.1, HBr.out.2] | rw [HRet.out.1, HRet.out.2] | rw [HTrap.out.1, HTrap.out.2]); rintro e W ⟨rfl, t1, r1⟩; have L := hid (L.out.call t1 r1); clear t1 r1; (try clear l0 l1 l2 l3 z0 z1 z2 z3 lf zf ll); obtain ⟨l0, l1, l2, l3⟩ := L.out.ls; obtain ⟨z0, z1, z2, z3⟩ := L.out.lsz; have lf := L.out.fz; have zf := L.out.fzz; have ll := L.out.ll)
    | (go_at_call 69; refine (fail_rc L.out.r).mono ?_; rintro e W ⟨rfl, t1, r1⟩; have L := hid (L.out.call t1 r1); clear t1 r1; (try clear l0 l1 l2 l3 z0 z1 z2 z3 lf zf ll); obtain ⟨l0, l1, l2, l3⟩ := L.out.ls; obtain ⟨z0, z1, z2, z3⟩ := L.out.lsz; have lf := L.out.fz; have zf := L.out.fzz; have ll := L.out.ll))
  have F := L.out |>.setz (zc' := lsC 0 0 0 0) 0 (.int .u8 0) rfl |>.setz (zc' := lsC 0 0 0 0) 1 (.int .i64 0) rfl |>.setz (zc' := lsC 0 0 0 0) 2 (.int .i64 0) rfl |>.setz (zc' := lsC 0 0 0 0) 3 (.int .i64 0) rfl
  obtain ⟨q0, q1, q2, q3⟩ := F.lsz
  refine bodyPost_ret (v := lastA (0, 0, 0, 0)) (by simp [results, Tryz.results57, go_sem, lastA, lsC, q0, q1, q2, q3]) rfl ⟨rfl, F.t, F.r⟩
theorem last_rc {rb g c : Nat} {ts : List Ev} {st : RS} {w : World} (h : RdAt w rb g c ts st) (ht : Tks ts) (hw : WordsH w) (hne : 1 ≠ rb) : RC 57 [] rb g c ts (lastA (lastD ts st).1) (lastD ts st).2 w := by
  unfold lastD
  cases h1 : hasB sJump ts st
  · cases h2 : hasB sBr ts st
    · cases h3 : hasB sRet ts st
      · cases h4 : hasB sTrap ts st
        · exact last_none h ht hw hne h1 h2 h3 h4
        · exact last_trap h ht hw hne h1 h2 h3 h4
      · exact last_ret h ht hw hne h1 h2 h3
    · exact last_br h ht hw hne h1 h2
  · exact last_jump h ht hw hne h1
end Go.Proofs.YtmikkacillfdeaaGreatDoor


/- parse.reader: setting. Written by mkrd.py. -/
set_option linter.unusedSimpArgs false
set_option linter.unusedVariables false
namespace Go.Proofs.YtmikkacillfdeaaGreatDoor
open Go.RowKit Go.Sort

def insA (x : InsM) : Value := .agg (isC x.k x.o x.d x.a x.b x.n x.s)
theorem MW.start1 {w W : World} {rb g c : Nat} {ts : List Ev} {T : TypeId} {st st' : RS} {zc : Array Value} (hr : RdAt w rb g c ts st) (hw : WordsH w) (hne : 1 ≠ rb) (t : Tch [rb] (w.alloc (.cells zc T)) W) (r : RdAt W rb g c ts st') (lc : Array Value) : MW w rb g c ts T w.heap.size W.heap.size zc lc st' (W.alloc (.cells lc T)) := by
  obtain ⟨cur, k, _⟩ := hr.row
  have hrl := lt_of_obj hr.o
  have t0 : Tch [rb] w (w.alloc (.cells zc T)) := (Tch.refl _ w).alloc _
  have ta : Tch [] W (W.alloc (.cells lc T)) := (Tch.refl [] W).alloc _
  have sz : (w.alloc (.cells zc T)).heap.size = w.heap.size + 1 := Array.size_push _
  have hs := t.size
  exact ⟨r.kept ta (by simp) (by simp), (t0.trans t).trans (ta.mono (by simp)), ta.obj (t.obj (heap_alloc_new w _) (by simp; omega)) (by simp), heap_alloc_new _ _, hrl, lt_of_obj k, Nat.le_refl _, by omega, (hw.tch (t0.trans t) (by simpa using hne)).tch ta (by simp), hw.pos, hne⟩
set_option maxRecDepth 100000 in
set_option maxHeartbeats 8000000 in
theorem setting_num {rb g c : Nat} {ts : List Ev} {st : RS} {w : World} (h : RdAt w rb g c ts st) (ht : Tks ts) (hw : WordsH w) (hne : 1 ≠ rb) (d : Int) (s1 s2 : RS) (hd : tkV 2 ts st = d) (e1 : tkS 2 ts st = s1) (e2 : signS sEq ts s1 = s2) (hk : (curE ts s2).k = 5) : RC 70 [] rb g c ts (insA ⟨0, 0, d, 0, 0, (tkV 5 ts s2), 0⟩) (tkS 5 ts s2) w := by
  have H := hid h
  have HWS := hid hw
  have HNE := hid hne
  have HD := hid hd
  have E1 := hid e1
  have E2 := hid e2
  have HK := hid hk
  have fk := field_kind 5 (curE ts s2).p (curE ts s2).n (bytesOf (curE ts s2).t)
  clear hk
  clear h hw hne hd e1 e2
  unfold RC
  go_enter Tryz.func70, Tryz.ntmps70
  go_wp2_with (first
    | (go_at_call 71; refine (reg_rc (H.out.kept ((Tch.refl [] w).alloc _) (by simp) (by simp)) ht).mono ?_; rw [HD.out, E1.out]; rintro e W ⟨rfl, t1, r1⟩; have L := hid (MW.start1 (T := 56) (H.out) HWS.out HNE.out t1 r1 (isC 0 0 d 0 0 0 0)); clear t1 r1; obtain ⟨l0, l1, l2, l3, l4, l5, l6⟩ := L.out.is; obtain ⟨z0, z1, z2, z3, z4, z5, z6⟩ := L.out.isz; have lf := L.out.fz; have zf := L.out.fzz; have ll := L.out.ll)
    | (go_at_call 54; refine (sign_go sEq (by decide) L.out.r ht).mono ?_; rw [E2.out]; rintro e W ⟨rfl, t1, r1⟩; have L := hid (L.out.call t1 r1); clear t1 r1; (try clear l0 l1 l2 l3 l4 l5 l6 z0 z1 z2 z3 z4 z5 z6 lf zf ll); obtain ⟨l0, l1, l2, l3, l4, l5, l6⟩ := L.out.is; obtain ⟨z0, z1, z2, z3, z4, z5, z6⟩ := L.out.isz; have lf := L.out.fz; have zf := L.out.fzz; have ll := L.out.ll)
    | (go_at_call 37; refine (now_any rb g c ts s2 _ _ L.out.r L.out.r.cur).mono ?_; rw [HK.out]; rintro e W ⟨rfl, t1⟩; have L := hid (L.out.call0 t1); clear t1; (try clear l0 l1 l2 l3 l4 l5 l6 z0 z1 z2 z3 z4 z5 z6 lf zf ll); obtain ⟨l0, l1, l2, l3, l4, l5, l6⟩ := L.out.is; obtain ⟨z0, z1, z2, z3, z4, z5, z6⟩ := L.out.isz; have lf := L.out.fz; have zf := L.out.fzz; have ll := L.out.ll)
    | (go_at_call 67; have L := hid (L.out.set (lc' := isC 0 0 d 0 0 0 0) 0 (.int .u8 0) rfl); refine (take_rc 5 (by decide) L.out.r ht).mono ?_; rintro e W ⟨rfl, t1, r1⟩; have L := hid (L.out.call t1 r1); clear t1 r1; (try clear l0 l1 l2 l3 l4 l5 l6 z0 z1 z2 z3 z4 z5 z6 lf zf ll); obtain ⟨l0, l1, l2, l3, l4, l5, l6⟩ := L.out.is; obtain ⟨z0, z1, z2, z3, z4, z5, z6⟩ := L.out.isz; have lf := L.out.fz; have zf := L.out.fzz; have ll := L.out.ll))
  have F := L.out |>.set (lc' := isC 0 0 d 0 0 (tkV 5 ts s2) 0) 5 (.int .i64 (tkV 5 ts s2)) rfl |>.setz (zc' := isC 0 0 0 0 0 0 0) 0 (.int .u8 0) rfl |>.setz (zc' := isC 0 0 0 0 0 0 0) 1 (.int .u8 0) rfl |>.setz (zc' := isC 0 0 d 0 0 0 0) 2 (.int .i64 d) rfl |>.setz (zc' := isC 0 0 d 0 0 0 0) 3 (.int .i64 0) rfl |>.setz (zc' := isC 0 0 d 0 0 0 0) 4 (.int .i64 0) rfl |>.setz (zc' := isC 0 0 d 0 0 (tkV 5 ts s2) 0) 5 (.int .i64 (tkV 5 ts s2)) rfl |>.setz (zc' := isC 0 0 d 0 0 (tkV 5 ts s2) 0) 6 (.int .i64 0) rfl
  obtain ⟨q0, q1, q2, q3, q4, q5, q6⟩ := F.isz
  refine bodyPost_ret (v := insA ⟨0, 0, d, 0, 0, (tkV 5 ts s2), 0⟩) (by simp [results, Tryz.results70, go_sem, insA, isC, q0, q1, q2, q3, q4, q5, q6]) rfl ⟨rfl, F.t, F.r⟩
set_option maxRecDepth 100000 in
set_option maxHeartbeats 8000000 in
theorem setting_copy {rb g c : Nat} {ts : List Ev} {st : RS} {w : World} (h : RdAt w rb g c ts st) (ht : Tks ts) (hw : WordsH w) (hne : 1 ≠ rb) (d : Int) (s1 s2 : RS) (hd : tkV 2 ts st = d) (e1 : tkS 2 ts st = s1) (e2 : signS sEq ts s1 = s2) (hk : (curE ts s2).k = 2) : RC 70 [] rb g c ts (insA ⟨1, 0, d, (tkV 2 ts s2), 0, 0, 0⟩) (tkS 2 ts s2) w := by
  have H := hid h
  have HWS := hid hw
  have HNE := hid hne
  have HD := hid hd
  have E1 := hid e1
  have E2 := hid e2
  have HK := hid hk
  have fk := field_kind 2 (curE ts s2).p (curE ts s2).n (bytesOf (curE ts s2).t)
  clear hk
  clear h hw hne hd e1 e2
  unfold RC
  go_enter Tryz.func70, Tryz.ntmps70
  go_wp2_with (first
    | (go_at_call 71; refine (reg_rc (H.out.kept ((Tch.refl [] w).alloc _) (by simp) (by simp)) ht).mono ?_; rw [HD.out, E1.out]; rintro e W ⟨rfl, t1, r1⟩; have L := hid (MW.start1 (T := 56) (H.out) HWS.out HNE.out t1 r1 (isC 0 0 d 0 0 0 0)); clear t1 r1; obtain ⟨l0, l1, l2, l3, l4, l5, l6⟩ := L.out.is; obtain ⟨z0, z1, z2, z3, z4, z5, z6⟩ := L.out.isz; have lf := L.out.fz; have zf := L.out.fzz; have ll := L.out.ll)
    | (go_at_call 54; refine (sign_go sEq (by decide) L.out.r ht).mono ?_; rw [E2.out]; rintro e W ⟨rfl, t1, r1⟩; have L := hid (L.out.call t1 r1); clear t1 r1; (try clear l0 l1 l2 l3 l4 l5 l6 z0 z1 z2 z3 z4 z5 z6 lf zf ll); obtain ⟨l0, l1, l2, l3, l4, l5, l6⟩ := L.out.is; obtain ⟨z0, z1, z2, z3, z4, z5, z6⟩ := L.out.isz; have lf := L.out.fz; have zf := L.out.fzz; have ll := L.out.ll)
    | (go_at_call 37; refine (now_any rb g c ts s2 _ _ L.out.r L.out.r.cur).mono ?_; rw [HK.out]; rintro e W ⟨rfl, t1⟩; have L := hid (L.out.call0 t1); clear t1; (try clear l0 l1 l2 l3 l4 l5 l6 z0 z1 z2 z3 z4 z5 z6 lf zf ll); obtain ⟨l0, l1, l2, l3, l4, l5, l6⟩ := L.out.is; obtain ⟨z0, z1, z2, z3, z4, z5, z6⟩ := L.out.isz; have lf := L.out.fz; have zf := L.out.fzz; have ll := L.out.ll)
    | (go_at_call 71; have L := hid (MW.set (st := s2) (lc' := isC 1 0 d 0 0 0 0) L.out 0 (.int .u8 1) rfl); refine (reg_rc L.out.r ht).mono ?_; rintro e W ⟨rfl, t1, r1⟩; have L := hid (L.out.call t1 r1); clear t1 r1; (try clear l0 l1 l2 l3 l4 l5 l6 z0 z1 z2 z3 z4 z5 z6 lf zf ll); obtain ⟨l0, l1, l2, l3, l4, l5, l6⟩ := L.out.is; obtain ⟨z0, z1, z2, z3, z4, z5, z6⟩ := L.out.isz; have lf := L.out.fz; have zf := L.out.fzz; have ll := L.out.ll))
  have F := L.out |>.set (lc' := isC 1 0 d (tkV 2 ts s2) 0 0 0) 3 (.int .i64 (tkV 2 ts s2)) rfl |>.setz (zc' := isC 1 0 0 0 0 0 0) 0 (.int .u8 1) rfl |>.setz (zc' := isC 1 0 0 0 0 0 0) 1 (.int .u8 0) rfl |>.setz (zc' := isC 1 0 d 0 0 0 0) 2 (.int .i64 d) rfl |>.setz (zc' := isC 1 0 d (tkV 2 ts s2) 0 0 0) 3 (.int .i64 (tkV 2 ts s2)) rfl |>.setz (zc' := isC 1 0 d (tkV 2 ts s2) 0 0 0) 4 (.int .i64 0) rfl |>.setz (zc' := isC 1 0 d (tkV 2 ts s2) 0 0 0) 5 (.int .i64 0) rfl |>.setz (zc' := isC 1 0 d (tkV 2 ts s2) 0 0 0) 6 (.int .i64 0) rfl
  obtain ⟨q0, q1, q2, q3, q4, q5, q6⟩ := F.isz
  refine bodyPost_ret (v := insA ⟨1, 0, d, (tkV 2 ts s2), 0, 0, 0⟩) (by simp [results, Tryz.results70, go_sem, insA, isC, q0, q1, q2, q3, q4, q5, q6]) rfl ⟨rfl, F.t, F.r⟩
set_option maxRecDepth 100000 in
set_option maxHeartbeats 8000000 in
theorem setting_in {rb g c : Nat} {ts : List Ev} {st : RS} {w : World} (h : RdAt w rb g c ts st) (ht : Tks ts) (hw : WordsH w) (hne : 1 ≠ rb) (d : Int) (s1 s2 : RS) (hd : tkV 2 ts st = d) (e1 : tkS 2 ts st = s1) (e2 : signS sEq ts s1 = s2) (k5 : ¬ (curE ts s2).k = 5) (k2 : ¬ (curE ts s2).k = 2) (hy : hasB sIn ts s2 = true) : RC 70 [] rb g c ts (insA ⟨3, 0, d, 0, 0, 0, 0⟩) s2.on w := by
  have H := hid h
  have HWS := hid hw
  have HNE := hid hne
  have HD := hid hd
  have E1 := hid e1
  have E2 := hid e2
  have HY : Hid (hasB ⟨#[105, 110]⟩ ts s2 = true ∧ hasS ⟨#[105, 110]⟩ ts s2 = s2.on) := has_t hy
  have fk := field_kind (curE ts s2).k (curE ts s2).p (curE ts s2).n (bytesOf (curE ts s2).t)
  have b5 : ((curE ts s2).k == 5) = false := by rw [beq_eq_false_iff_ne]; exact k5
  have b2 : ((curE ts s2).k == 2) = false := by rw [beq_eq_false_iff_ne]; exact k2
  clear k5 k2
  clear h hw hne hd e1 e2 hy
  unfold RC
  go_enter Tryz.func70, Tryz.ntmps70
  go_wp2_with (first
    | (go_at_call 71; refine (reg_rc (H.out.kept ((Tch.refl [] w).alloc _) (by simp) (by simp)) ht).mono ?_; rw [HD.out, E1.out]; rintro e W ⟨rfl, t1, r1⟩; have L := hid (MW.start1 (T := 56) (H.out) HWS.out HNE.out t1 r1 (isC 0 0 d 0 0 0 0)); clear t1 r1; obtain ⟨l0, l1, l2, l3, l4, l5, l6⟩ := L.out.is; obtain ⟨z0, z1, z2, z3, z4, z5, z6⟩ := L.out.isz; have lf := L.out.fz; have zf := L.out.fzz; have ll := L.out.ll)
    | (go_at_call 54; refine (sign_go sEq (by decide) L.out.r ht).mono ?_; rw [E2.out]; rintro e W ⟨rfl, t1, r1⟩; have L := hid (L.out.call t1 r1); clear t1 r1; (try clear l0 l1 l2 l3 l4 l5 l6 z0 z1 z2 z3 z4 z5 z6 lf zf ll); obtain ⟨l0, l1, l2, l3, l4, l5, l6⟩ := L.out.is; obtain ⟨z0, z1, z2, z3, z4, z5, z6⟩ := L.out.isz; have lf := L.out.fz; have zf := L.out.fzz; have ll := L.out.ll)
    | (go_at_call 37; refine (now_any rb g c ts s2 _ _ L.out.r L.out.r.cur).mono ?_; rintro e W ⟨rfl, t1⟩; have L := hid (L.out.call0 t1); clear t1; (try clear l0 l1 l2 l3 l4 l5 l6 z0 z1 z2 z3 z4 z5 z6 lf zf ll); obtain ⟨l0, l1, l2, l3, l4, l5, l6⟩ := L.out.is; obtain ⟨z0, z1, z2, z3, z4, z5, z6⟩ := L.out.isz; have lf := L.out.fz; have zf := L.out.fzz; have ll := L.out.ll)
    | (go_at_call 68; refine (has_go _ (by decide) L.out.r ht).mono ?_; (first | rw [HY.out.1, HY.out.2]); rintro e W ⟨rfl, t1, r1⟩; have L := hid (L.out.call t1 r1); clear t1 r1; (try clear l0 l1 l2 l3 l4 l5 l6 z0 z1 z2 z3 z4 z5 z6 lf zf ll); obtain ⟨l0, l1, l2, l3, l4, l5, l6⟩ := L.out.is; obtain ⟨z0, z1, z2, z3, z4, z5, z6⟩ := L.out.isz; have lf := L.out.fz; have zf := L.out.fzz; have ll := L.out.ll))
  have F := L.out |>.set (lc' := isC 3 0 d 0 0 0 0) 0 (.int .u8 3) rfl |>.setz (zc' := isC 3 0 0 0 0 0 0) 0 (.int .u8 3) rfl |>.setz (zc' := isC 3 0 0 0 0 0 0) 1 (.int .u8 0) rfl |>.setz (zc' := isC 3 0 d 0 0 0 0) 2 (.int .i64 d) rfl |>.setz (zc' := isC 3 0 d 0 0 0 0) 3 (.int .i64 0) rfl |>.setz (zc' := isC 3 0 d 0 0 0 0) 4 (.int .i64 0) rfl |>.setz (zc' := isC 3 0 d 0 0 0 0) 5 (.int .i64 0) rfl |>.setz (zc' := isC 3 0 d 0 0 0 0) 6 (.int .i64 0) rfl
  obtain ⟨q0, q1, q2, q3, q4, q5, q6⟩ := F.isz
  refine bodyPost_ret (v := insA ⟨3, 0, d, 0, 0, 0, 0⟩) (by simp [results, Tryz.results70, go_sem, insA, isC, q0, q1, q2, q3, q4, q5, q6]) rfl ⟨rfl, F.t, F.r⟩
set_option maxRecDepth 100000 in
set_option maxHeartbeats 8000000 in
theorem setting_load {rb g c : Nat} {ts : List Ev} {st : RS} {w : World} (h : RdAt w rb g c ts st) (ht : Tks ts) (hw : WordsH w) (hne : 1 ≠ rb) (d : Int) (s1 s2 : RS) (hd : tkV 2 ts st = d) (e1 : tkS 2 ts st = s1) (e2 : signS sEq ts s1 = s2) (k5 : ¬ (curE ts s2).k = 5) (k2 : ¬ (curE ts s2).k = 2) (hIn : hasB sIn ts s2 = false) (hy : hasB sLoad ts s2 = true) : RC 70 [] rb g c ts (insA ⟨5, 0, d, 0, 0, 0, (tkV 4 ts s2.on)⟩) (tkS 4 ts s2.on) w := by
  have H := hid h
  have HWS := hid hw
  have HNE := hid hne
  have HD := hid hd
  have E1 := hid e1
  have E2 := hid e2
  have HIn : Hid (hasB ⟨#[105, 110]⟩ ts s2 = false ∧ hasS ⟨#[105, 110]⟩ ts s2 = s2) := has_f hIn
  have HY : Hid (hasB ⟨#[108, 111, 97, 100]⟩ ts s2 = true ∧ hasS ⟨#[108, 111, 97, 100]⟩ ts s2 = s2.on) := has_t hy
  have fk := field_kind (curE ts s2).k (curE ts s2).p (curE ts s2).n (bytesOf (curE ts s2).t)
  have b5 : ((curE ts s2).k == 5) = false := by rw [beq_eq_false_iff_ne]; exact k5
  have b2 : ((curE ts s2).k == 2) = false := by rw [beq_eq_false_iff_ne]; exact k2
  clear k5 k2
  clear h hw hne hd e1 e2 hIn hy
  unfold RC
  go_enter Tryz.func70, Tryz.ntmps70
  go_wp2_with (first
    | (go_at_call 71; refine (reg_rc (H.out.kept ((Tch.refl [] w).alloc _) (by simp) (by simp)) ht).mono ?_; rw [HD.out, E1.out]; rintro e W ⟨rfl, t1, r1⟩; have L := hid (MW.start1 (T := 56) (H.out) HWS.out HNE.out t1 r1 (isC 0 0 d 0 0 0 0)); clear t1 r1; obtain ⟨l0, l1, l2, l3, l4, l5, l6⟩ := L.out.is; obtain ⟨z0, z1, z2, z3, z4, z5, z6⟩ := L.out.isz; have lf := L.out.fz; have zf := L.out.fzz; have ll := L.out.ll)
    | (go_at_call 54; refine (sign_go sEq (by decide) L.out.r ht).mono ?_; rw [E2.out]; rintro e W ⟨rfl, t1, r1⟩; have L := hid (L.out.call t1 r1); clear t1 r1; (try clear l0 l1 l2 l3 l4 l5 l6 z0 z1 z2 z3 z4 z5 z6 lf zf ll); obtain ⟨l0, l1, l2, l3, l4, l5, l6⟩ := L.out.is; obtain ⟨z0, z1, z2, z3, z4, z5, z6⟩ := L.out.isz; have lf := L.out.fz; have zf := L.out.fzz; have ll := L.out.ll)
    | (go_at_call 37; refine (now_any rb g c ts s2 _ _ L.out.r L.out.r.cur).mono ?_; rintro e W ⟨rfl, t1⟩; have L := hid (L.out.call0 t1); clear t1; (try clear l0 l1 l2 l3 l4 l5 l6 z0 z1 z2 z3 z4 z5 z6 lf zf ll); obtain ⟨l0, l1, l2, l3, l4, l5, l6⟩ := L.out.is; obtain ⟨z0, z1, z2, z3, z4, z5, z6⟩ := L.out.isz; have lf := L.out.fz; have zf := L.out.fzz; have ll := L.out.ll)
    | (go_at_call 72; have L := hid (L.out.set (lc' := isC 5 0 d 0 0 0 0) 0 (.int .u8 5) rfl); refine (slot_rc L.out.r ht).mono ?_; rintro e W ⟨rfl, t1, r1⟩; have L := hid (L.out.call t1 r1); clear t1 r1; (try clear l0 l1 l2 l3 l4 l5 l6 z0 z1 z2 z3 z4 z5 z6 lf zf ll); obtain ⟨l0, l1, l2, l3, l4, l5, l6⟩ := L.out.is; obtain ⟨z0, z1, z2, z3, z4, z5, z6⟩ := L.out.isz; have lf := L.out.fz; have zf := L.out.fzz; have ll := L.out.ll)
    | (go_at_call 68; refine (has_go _ (by decide) L.out.r ht).mono ?_; (first | rw [HIn.out.1, HIn.out.2] | rw [HY.out.1, HY.out.2]); rintro e W ⟨rfl, t1, r1⟩; have L := hid (L.out.call t1 r1); clear t1 r1; (try clear l0 l1 l2 l3 l4 l5 l6 z0 z1 z2 z3 z4 z5 z6 lf zf ll); obtain ⟨l0, l1, l2, l3, l4, l5, l6⟩ := L.out.is; obtain ⟨z0, z1, z2, z3, z4, z5, z6⟩ := L.out.isz; have lf := L.out.fz; have zf := L.out.fzz; have ll := L.out.ll))
  have F := L.out |>.set (lc' := isC 5 0 d 0 0 0 (tkV 4 ts s2.on)) 6 (.int .i64 (tkV 4 ts s2.on)) rfl |>.setz (zc' := isC 5 0 0 0 0 0 0) 0 (.int .u8 5) rfl |>.setz (zc' := isC 5 0 0 0 0 0 0) 1 (.int .u8 0) rfl |>.setz (zc' := isC 5 0 d 0 0 0 0) 2 (.int .i64 d) rfl |>.setz (zc' := isC 5 0 d 0 0 0 0) 3 (.int .i64 0) rfl |>.setz (zc' := isC 5 0 d 0 0 0 0) 4 (.int .i64 0) rfl |>.setz (zc' := isC 5 0 d 0 0 0 0) 5 (.int .i64 0) rfl |>.setz (zc' := isC 5 0 d 0 0 0 (tkV 4 ts s2.on)) 6 (.int .i64 (tkV 4 ts s2.on)) rfl
  obtain ⟨q0, q1, q2, q3, q4, q5, q6⟩ := F.isz
  refine bodyPost_ret (v := insA ⟨5, 0, d, 0, 0, 0, (tkV 4 ts s2.on)⟩) (by simp [results, Tryz.results70, go_sem, insA, isC, q0, q1, q2, q3, q4, q5, q6]) rfl ⟨rfl, F.t, F.r⟩
set_option maxRecDepth 100000 in
set_option maxHeartbeats 8000000 in
theorem setting_get {rb g c : Nat} {ts : List Ev} {st : RS} {w : World} (h : RdAt w rb g c ts st) (ht : Tks ts) (hw : WordsH w) (hne : 1 ≠ rb) (d : Int) (s1 s2 : RS) (hd : tkV 2 ts st = d) (e1 : tkS 2 ts st = s1) (e2 : signS sEq ts s1 = s2) (k5 : ¬ (curE ts s2).k = 5) (k2 : ¬ (curE ts s2).k = 2) (hIn : hasB sIn ts s2 = false) (hLoad : hasB sLoad ts s2 = false) (hy : hasB sGet ts s2 = true) : RC 70 [] rb g c ts (insA ⟨7, 0, d, (tkV 2 ts s2.on), 0, 0, 0⟩) (tkS 2 ts s2.on) w := by
  have H := hid h
  have HWS := hid hw
  have HNE := hid hne
  have HD := hid hd
  have E1 := hid e1
  have E2 := hid e2
  have HIn : Hid (hasB ⟨#[105, 110]⟩ ts s2 = false ∧ hasS ⟨#[105, 110]⟩ ts s2 = s2) := has_f hIn
  have HLoad : Hid (hasB ⟨#[108, 111, 97, 100]⟩ ts s2 = false ∧ hasS ⟨#[108, 111, 97, 100]⟩ ts s2 = s2) := has_f hLoad
  have HY : Hid (hasB ⟨#[103, 101, 116]⟩ ts s2 = true ∧ hasS ⟨#[103, 101, 116]⟩ ts s2 = s2.on) := has_t hy
  have fk := field_kind (curE ts s2).k (curE ts s2).p (curE ts s2).n (bytesOf (curE ts s2).t)
  have b5 : ((curE ts s2).k == 5) = false := by rw [beq_eq_false_iff_ne]; exact k5
  have b2 : ((curE ts s2).k == 2) = false := by rw [beq_eq_false_iff_ne]; exact k2
  clear k5 k2
  clear h hw hne hd e1 e2 hIn hLoad hy
  unfold RC
  go_enter Tryz.func70, Tryz.ntmps70
  go_wp2_with (first
    | (go_at_call 71; refine (reg_rc (H.out.kept ((Tch.refl [] w).alloc _) (by simp) (by simp)) ht).mono ?_; rw [HD.out, E1.out]; rintro e W ⟨rfl, t1, r1⟩; have L := hid (MW.start1 (T := 56) (H.out) HWS.out HNE.out t1 r1 (isC 0 0 d 0 0 0 0)); clear t1 r1; obtain ⟨l0, l1, l2, l3, l4, l5, l6⟩ := L.out.is; obtain ⟨z0, z1, z2, z3, z4, z5, z6⟩ := L.out.isz; have lf := L.out.fz; have zf := L.out.fzz; have ll := L.out.ll)
    | (go_at_call 54; refine (sign_go sEq (by decide) L.out.r ht).mono ?_; rw [E2.out]; rintro e W ⟨rfl, t1, r1⟩; have L := hid (L.out.call t1 r1); clear t1 r1; (try clear l0 l1 l2 l3 l4 l5 l6 z0 z1 z2 z3 z4 z5 z6 lf zf ll); obtain ⟨l0, l1, l2, l3, l4, l5, l6⟩ := L.out.is; obtain ⟨z0, z1, z2, z3, z4, z5, z6⟩ := L.out.isz; have lf := L.out.fz; have zf := L.out.fzz; have ll := L.out.ll)
    | (go_at_call 37; refine (now_any rb g c ts s2 _ _ L.out.r L.out.r.cur).mono ?_; rintro e W ⟨rfl, t1⟩; have L := hid (L.out.call0 t1); clear t1; (try clear l0 l1 l2 l3 l4 l5 l6 z0 z1 z2 z3 z4 z5 z6 lf zf ll); obtain ⟨l0, l1, l2, l3, l4, l5, l6⟩ := L.out.is; obtain ⟨z0, z1, z2, z3, z4, z5, z6⟩ := L.out.isz; have lf := L.out.fz; have zf := L.out.fzz; have ll := L.out.ll)
    | (go_at_call 71; have L := hid (MW.set (st := s2.on) (lc' := isC 7 0 d 0 0 0 0) L.out 0 (.int .u8 7) rfl); refine (reg_rc L.out.r ht).mono ?_; rintro e W ⟨rfl, t1, r1⟩; have L := hid (L.out.call t1 r1); clear t1 r1; (try clear l0 l1 l2 l3 l4 l5 l6 z0 z1 z2 z3 z4 z5 z6 lf zf ll); obtain ⟨l0, l1, l2, l3, l4, l5, l6⟩ := L.out.is; obtain ⟨z0, z1, z2, z3, z4, z5, z6⟩ := L.out.isz; have lf := L.out.fz; have zf := L.out.fzz; have ll := L.out.ll)
    | (go_at_call 68; refine (has_go _ (by decide) L.out.r ht).mono ?_; (first | rw [HIn.out.1, HIn.out.2] | rw [HLoad.out.1, HLoad.out.2] | rw [HY.out.1, HY.out.2]); rintro e W ⟨rfl, t1, r1⟩; have L := hid (L.out.call t1 r1); clear t1 r1; (try clear l0 l1 l2 l3 l4 l5 l6 z0 z1 z2 z3 z4 z5 z6 lf zf ll); obtain ⟨l0, l1, l2, l3, l4, l5, l6⟩ := L.out.is; obtain ⟨z0, z1, z2, z3, z4, z5, z6⟩ := L.out.isz; have lf := L.out.fz; have zf := L.out.fzz; have ll := L.out.ll))
  have F := L.out |>.set (lc' := isC 7 0 d (tkV 2 ts s2.on) 0 0 0) 3 (.int .i64 (tkV 2 ts s2.on)) rfl |>.setz (zc' := isC 7 0 0 0 0 0 0) 0 (.int .u8 7) rfl |>.setz (zc' := isC 7 0 0 0 0 0 0) 1 (.int .u8 0) rfl |>.setz (zc' := isC 7 0 d 0 0 0 0) 2 (.int .i64 d) rfl |>.setz (zc' := isC 7 0 d (tkV 2 ts s2.on) 0 0 0) 3 (.int .i64 (tkV 2 ts s2.on)) rfl |>.setz (zc' := isC 7 0 d (tkV 2 ts s2.on) 0 0 0) 4 (.int .i64 0) rfl |>.setz (zc' := isC 7 0 d (tkV 2 ts s2.on) 0 0 0) 5 (.int .i64 0) rfl |>.setz (zc' := isC 7 0 d (tkV 2 ts s2.on) 0 0 0) 6 (.int .i64 0) rfl
  obtain ⟨q0, q1, q2, q3, q4, q5, q6⟩ := F.isz
  refine bodyPost_ret (v := insA ⟨7, 0, d, (tkV 2 ts s2.on), 0, 0, 0⟩) (by simp [results, Tryz.results70, go_sem, insA, isC, q0, q1, q2, q3, q4, q5, q6]) rfl ⟨rfl, F.t, F.r⟩
set_option maxRecDepth 100000 in
set_option maxHeartbeats 8000000 in
theorem setting_do {rb g c : Nat} {ts : List Ev} {st : RS} {w : World} (h : RdAt w rb g c ts st) (ht : Tks ts) (hw : WordsH w) (hne : 1 ≠ rb) (d : Int) (s1 s2 : RS) (hd : tkV 2 ts st = d) (e1 : tkS 2 ts st = s1) (e2 : signS sEq ts s1 = s2) (k5 : ¬ (curE ts s2).k = 5) (k2 : ¬ (curE ts s2).k = 2) (hIn : hasB sIn ts s2 = false) (hLoad : hasB sLoad ts s2 = false) (hGet : hasB sGet ts s2 = false) : RC 70 [] rb g c ts (insA ⟨2, (opV ts s2), d, (tkV 2 ts (opS ts s2)), (tkV 2 ts (signS comma ts (tkS 2 ts (opS ts s2)))), 0, 0⟩) (twoS ts (opS ts s2)) w := by
  have H := hid h
  have HWS := hid hw
  have HNE := hid hne
  have HD := hid hd
  have E1 := hid e1
  have E2 := hid e2
  have HIn : Hid (hasB ⟨#[105, 110]⟩ ts s2 = false ∧ hasS ⟨#[105, 110]⟩ ts s2 = s2) := has_f hIn
  have HLoad : Hid (hasB ⟨#[108, 111, 97, 100]⟩ ts s2 = false ∧ hasS ⟨#[108, 111, 97, 100]⟩ ts s2 = s2) := has_f hLoad
  have HGet : Hid (hasB ⟨#[103, 101, 116]⟩ ts s2 = false ∧ hasS ⟨#[103, 101, 116]⟩ ts s2 = s2) := has_f hGet
  have fk := field_kind (curE ts s2).k (curE ts s2).p (curE ts s2).n (bytesOf (curE ts s2).t)
  have b5 : ((curE ts s2).k == 5) = false := by rw [beq_eq_false_iff_ne]; exact k5
  have b2 : ((curE ts s2).k == 2) = false := by rw [beq_eq_false_iff_ne]; exact k2
  clear k5 k2
  clear h hw hne hd e1 e2 hIn hLoad hGet
  unfold RC
  go_enter Tryz.func70, Tryz.ntmps70
  go_wp2_with (first
    | (go_at_call 71; refine (reg_rc (H.out.kept ((Tch.refl [] w).alloc _) (by simp) (by simp)) ht).mono ?_; rw [HD.out, E1.out]; rintro e W ⟨rfl, t1, r1⟩; have L := hid (MW.start1 (T := 56) (H.out) HWS.out HNE.out t1 r1 (isC 0 0 d 0 0 0 0)); clear t1 r1; obtain ⟨l0, l1, l2, l3, l4, l5, l6⟩ := L.out.is; obtain ⟨z0, z1, z2, z3, z4, z5, z6⟩ := L.out.isz; have lf := L.out.fz; have zf := L.out.fzz; have ll := L.out.ll)
    | (go_at_call 54; refine (sign_go sEq (by decide) L.out.r ht).mono ?_; rw [E2.out]; rintro e W ⟨rfl, t1, r1⟩; have L := hid (L.out.call t1 r1); clear t1 r1; (try clear l0 l1 l2 l3 l4 l5 l6 z0 z1 z2 z3 z4 z5 z6 lf zf ll); obtain ⟨l0, l1, l2, l3, l4, l5, l6⟩ := L.out.is; obtain ⟨z0, z1, z2, z3, z4, z5, z6⟩ := L.out.isz; have lf := L.out.fz; have zf := L.out.fzz; have ll := L.out.ll)
    | (go_at_call 37; refine (now_any rb g c ts s2 _ _ L.out.r L.out.r.cur).mono ?_; rintro e W ⟨rfl, t1⟩; have L := hid (L.out.call0 t1); clear t1; (try clear l0 l1 l2 l3 l4 l5 l6 z0 z1 z2 z3 z4 z5 z6 lf zf ll); obtain ⟨l0, l1, l2, l3, l4, l5, l6⟩ := L.out.is; obtain ⟨z0, z1, z2, z3, z4, z5, z6⟩ := L.out.isz; have lf := L.out.fz; have zf := L.out.fzz; have ll := L.out.ll)
    | (go_at_call 87; have L := hid (L.out.set (lc' := isC 2 0 d 0 0 0 0) 0 (.int .u8 2) rfl); refine (op_rc L.out.r ht L.out.h.1).mono ?_; rintro e W ⟨rfl, t1, r1⟩; have L := hid (L.out.call t1 r1); clear t1 r1; (try clear l0 l1 l2 l3 l4 l5 l6 z0 z1 z2 z3 z4 z5 z6 lf zf ll); obtain ⟨l0, l1, l2, l3, l4, l5, l6⟩ := L.out.is; obtain ⟨z0, z1, z2, z3, z4, z5, z6⟩ := L.out.isz; have lf := L.out.fz; have zf := L.out.fzz; have ll := L.out.ll)
    | (go_at_call 73; have L := hid (L.out.set (lc' := isC 2 (opV ts s2) d 0 0 0 0) 1 (.int .u8 (opV ts s2)) rfl); refine (two_rc L.out.r ht).mono ?_; rintro e W ⟨rfl, t1, r1⟩; have L := hid (L.out.call t1 r1); clear t1 r1; (try clear l0 l1 l2 l3 l4 l5 l6 z0 z1 z2 z3 z4 z5 z6 lf zf ll); obtain ⟨l0, l1, l2, l3, l4, l5, l6⟩ := L.out.is; obtain ⟨z0, z1, z2, z3, z4, z5, z6⟩ := L.out.isz; have lf := L.out.fz; have zf := L.out.fzz; have ll := L.out.ll)
    | (go_at_call 68; refine (has_go _ (by decide) L.out.r ht).mono ?_; (first | rw [HIn.out.1, HIn.out.2] | rw [HLoad.out.1, HLoad.out.2] | rw [HGet.out.1, HGet.out.2]); rintro e W ⟨rfl, t1, r1⟩; have L := hid (L.out.call t1 r1); clear t1 r1; (try clear l0 l1 l2 l3 l4 l5 l6 z0 z1 z2 z3 z4 z5 z6 lf zf ll); obtain ⟨l0, l1, l2, l3, l4, l5, l6⟩ := L.out.is; obtain ⟨z0, z1, z2, z3, z4, z5, z6⟩ := L.out.isz; have lf := L.out.fz; have zf := L.out.fzz; have ll := L.out.ll))
  have F := L.out |>.set (lc' := isC 2 (opV ts s2) d (tkV 2 ts (opS ts s2)) 0 0 0) 3 (.int .i64 (tkV 2 ts (opS ts s2))) rfl |>.set (lc' := isC 2 (opV ts s2) d (tkV 2 ts (opS ts s2)) (tkV 2 ts (signS comma ts (tkS 2 ts (opS ts s2)))) 0 0) 4 (.int .i64 (tkV 2 ts (signS comma ts (tkS 2 ts (opS ts s2))))) rfl |>.setz (zc' := isC 2 0 0 0 0 0 0) 0 (.int .u8 2) rfl |>.setz (zc' := isC 2 (opV ts s2) 0 0 0 0 0) 1 (.int .u8 (opV ts s2)) rfl |>.setz (zc' := isC 2 (opV ts s2) d 0 0 0 0) 2 (.int .i64 d) rfl |>.setz (zc' := isC 2 (opV ts s2) d (tkV 2 ts (opS ts s2)) 0 0 0) 3 (.int .i64 (tkV 2 ts (opS ts s2))) rfl |>.setz (zc' := isC 2 (opV ts s2) d (tkV 2 ts (opS ts s2)) (tkV 2 ts (signS comma ts (tkS 2 ts (opS ts s2)))) 0 0) 4 (.int .i64 (tkV 2 ts (signS comma ts (tkS 2 ts (opS ts s2))))) rfl |>.setz (zc' := isC 2 (opV ts s2) d (tkV 2 ts (opS ts s2)) (tkV 2 ts (signS comma ts (tkS 2 ts (opS ts s2)))) 0 0) 5 (.int .i64 0) rfl |>.setz (zc' := isC 2 (opV ts s2) d (tkV 2 ts (opS ts s2)) (tkV 2 ts (signS comma ts (tkS 2 ts (opS ts s2)))) 0 0) 6 (.int .i64 0) rfl
  obtain ⟨q0, q1, q2, q3, q4, q5, q6⟩ := F.isz
  refine bodyPost_ret (v := insA ⟨2, (opV ts s2), d, (tkV 2 ts (opS ts s2)), (tkV 2 ts (signS comma ts (tkS 2 ts (opS ts s2)))), 0, 0⟩) (by simp [results, Tryz.results70, go_sem, insA, isC, q0, q1, q2, q3, q4, q5, q6]) rfl ⟨rfl, F.t, F.r⟩
theorem setting_rc {rb g c : Nat} {ts : List Ev} {st : RS} {w : World} (h : RdAt w rb g c ts st) (ht : Tks ts) (hw : WordsH w) (hne : 1 ≠ rb) : RC 70 [] rb g c ts (insA (setD ts st).1) (setD ts st).2 w := by
  unfold setD setR
  by_cases k5 : (curE ts (signS sEq ts (tkS 2 ts st))).k = 5
  · rw [if_pos k5]; exact setting_num h ht hw hne _ _ _ rfl rfl rfl k5
  · by_cases k2 : (curE ts (signS sEq ts (tkS 2 ts st))).k = 2
    · rw [if_neg k5, if_pos k2]; exact setting_copy h ht hw hne _ _ _ rfl rfl rfl k2
    · rw [if_neg k5, if_neg k2]
      cases h1 : hasB sIn ts (signS sEq ts (tkS 2 ts st))
      · cases h2 : hasB sLoad ts (signS sEq ts (tkS 2 ts st))
        · cases h3 : hasB sGet ts (signS sEq ts (tkS 2 ts st))
          · exact setting_do h ht hw hne _ _ _ rfl rfl rfl k5 k2 h1 h2 h3
          · exact setting_get h ht hw hne _ _ _ rfl rfl rfl k5 k2 h1 h2 h3
        · exact setting_load h ht hw hne _ _ _ rfl rfl rfl k5 k2 h1 h2
      · exact setting_in h ht hw hne _ _ _ rfl rfl rfl k5 k2 h1
end Go.Proofs.YtmikkacillfdeaaGreatDoor


/- parse.reader: instr. Written by mkrd.py. -/
set_option linter.unusedSimpArgs false
set_option linter.unusedVariables false
namespace Go.Proofs.YtmikkacillfdeaaGreatDoor
open Go.RowKit Go.Sort

set_option maxRecDepth 100000 in
set_option maxHeartbeats 8000000 in
theorem instr_out {rb g c : Nat} {ts : List Ev} {st : RS} {w : World} (h : RdAt w rb g c ts st) (ht : Tks ts) (hw : WordsH w) (hne : 1 ≠ rb) (k2 : ¬ (curE ts st).k = 2) (hy : hasB sOut ts st = true) : RC 56 [] rb g c ts (.tuple #[insA ⟨4, 0, 0, (tkV 2 ts st.on), 0, 0, 0⟩, .bool true]) (tkS 2 ts st.on) w := by
  have L := hid (MW.start (T := 56) h hw hne (isC 0 0 0 0 0 0 0) (isC 0 0 0 0 0 0 0))
  have HY : Hid (hasB ⟨#[111, 117, 116]⟩ ts st = true ∧ hasS ⟨#[111, 117, 116]⟩ ts st = st.on) := has_t hy
  have fk := field_kind (curE ts st).k (curE ts st).p (curE ts st).n (bytesOf (curE ts st).t)
  have b2 : ((curE ts st).k == 2) = false := by rw [beq_eq_false_iff_ne]; exact k2
  clear k2
  clear h hw hne hy
  unfold RC
  go_enter Tryz.func56, Tryz.ntmps56
  go_wp2_with (first
    | (go_at_call 37; refine (now_any rb g c ts st _ _ L.out.r L.out.r.cur).mono ?_; rintro e W ⟨rfl, t1⟩; have L := hid (L.out.call0 t1); clear t1; (try clear l0 l1 l2 l3 l4 l5 l6 z0 z1 z2 z3 z4 z5 z6 lf zf ll); obtain ⟨l0, l1, l2, l3, l4, l5, l6⟩ := L.out.is; obtain ⟨z0, z1, z2, z3, z4, z5, z6⟩ := L.out.isz; have lf := L.out.fz; have zf := L.out.fzz; have ll := L.out.ll)
    | (go_at_call 71; have L := hid (L.out.set (lc' := isC 4 0 0 0 0 0 0) 0 (.int .u8 4) rfl); refine (reg_rc L.out.r ht).mono ?_; rintro e W ⟨rfl, t1, r1⟩; have L := hid (L.out.call t1 r1); clear t1 r1; (try clear l0 l1 l2 l3 l4 l5 l6 z0 z1 z2 z3 z4 z5 z6 lf zf ll); obtain ⟨l0, l1, l2, l3, l4, l5, l6⟩ := L.out.is; obtain ⟨z0, z1, z2, z3, z4, z5, z6⟩ := L.out.isz; have lf := L.out.fz; have zf := L.out.fzz; have ll := L.out.ll)
    | (go_at_call 68; refine (has_go _ (by decide) L.out.r ht).mono ?_; (first | rw [HY.out.1, HY.out.2]); rintro e W ⟨rfl, t1, r1⟩; have L := hid (L.out.call t1 r1); clear t1 r1; (try clear l0 l1 l2 l3 l4 l5 l6 z0 z1 z2 z3 z4 z5 z6 lf zf ll); obtain ⟨l0, l1, l2, l3, l4, l5, l6⟩ := L.out.is; obtain ⟨z0, z1, z2, z3, z4, z5, z6⟩ := L.out.isz; have lf := L.out.fz; have zf := L.out.fzz; have ll := L.out.ll))
  have F := L.out |>.set (lc' := isC 4 0 0 (tkV 2 ts st.on) 0 0 0) 3 (.int .i64 (tkV 2 ts st.on)) rfl |>.setz (zc' := isC 4 0 0 0 0 0 0) 0 (.int .u8 4) rfl |>.setz (zc' := isC 4 0 0 0 0 0 0) 1 (.int .u8 0) rfl |>.setz (zc' := isC 4 0 0 0 0 0 0) 2 (.int .i64 0) rfl |>.setz (zc' := isC 4 0 0 (tkV 2 ts st.on) 0 0 0) 3 (.int .i64 (tkV 2 ts st.on)) rfl |>.setz (zc' := isC 4 0 0 (tkV 2 ts st.on) 0 0 0) 4 (.int .i64 0) rfl |>.setz (zc' := isC 4 0 0 (tkV 2 ts st.on) 0 0 0) 5 (.int .i64 0) rfl |>.setz (zc' := isC 4 0 0 (tkV 2 ts st.on) 0 0 0) 6 (.int .i64 0) rfl
  obtain ⟨q0, q1, q2, q3, q4, q5, q6⟩ := F.isz
  refine bodyPost_ret (v := .tuple #[insA ⟨4, 0, 0, (tkV 2 ts st.on), 0, 0, 0⟩, .bool true]) (by simp [results, Tryz.results56, go_sem, insA, isC, q0, q1, q2, q3, q4, q5, q6]) rfl ⟨rfl, F.t, F.r⟩
set_option maxRecDepth 100000 in
set_option maxHeartbeats 8000000 in
theorem instr_store {rb g c : Nat} {ts : List Ev} {st : RS} {w : World} (h : RdAt w rb g c ts st) (ht : Tks ts) (hw : WordsH w) (hne : 1 ≠ rb) (k2 : ¬ (curE ts st).k = 2) (hOut : hasB sOut ts st = false) (hy : hasB sStore ts st = true) : RC 56 [] rb g c ts (.tuple #[insA ⟨6, 0, 0, (tkV 2 ts (signS comma ts (tkS 4 ts st.on))), 0, 0, (tkV 4 ts st.on)⟩, .bool true]) (tkS 2 ts (signS comma ts (tkS 4 ts st.on))) w := by
  have L := hid (MW.start (T := 56) h hw hne (isC 0 0 0 0 0 0 0) (isC 0 0 0 0 0 0 0))
  have HOut : Hid (hasB ⟨#[111, 117, 116]⟩ ts st = false ∧ hasS ⟨#[111, 117, 116]⟩ ts st = st) := has_f hOut
  have HY : Hid (hasB ⟨#[115, 116, 111, 114, 101]⟩ ts st = true ∧ hasS ⟨#[115, 116, 111, 114, 101]⟩ ts st = st.on) := has_t hy
  have fk := field_kind (curE ts st).k (curE ts st).p (curE ts st).n (bytesOf (curE ts st).t)
  have b2 : ((curE ts st).k == 2) = false := by rw [beq_eq_false_iff_ne]; exact k2
  clear k2
  clear h hw hne hOut hy
  unfold RC
  go_enter Tryz.func56, Tryz.ntmps56
  go_wp2_with (first
    | (go_at_call 37; refine (now_any rb g c ts st _ _ L.out.r L.out.r.cur).mono ?_; rintro e W ⟨rfl, t1⟩; have L := hid (L.out.call0 t1); clear t1; (try clear l0 l1 l2 l3 l4 l5 l6 z0 z1 z2 z3 z4 z5 z6 lf zf ll); obtain ⟨l0, l1, l2, l3, l4, l5, l6⟩ := L.out.is; obtain ⟨z0, z1, z2, z3, z4, z5, z6⟩ := L.out.isz; have lf := L.out.fz; have zf := L.out.fzz; have ll := L.out.ll)
    | (go_at_call 72; have L := hid (L.out.set (lc' := isC 6 0 0 0 0 0 0) 0 (.int .u8 6) rfl); refine (slot_rc L.out.r ht).mono ?_; rintro e W ⟨rfl, t1, r1⟩; have L := hid (L.out.call t1 r1); clear t1 r1; (try clear l0 l1 l2 l3 l4 l5 l6 z0 z1 z2 z3 z4 z5 z6 lf zf ll); obtain ⟨l0, l1, l2, l3, l4, l5, l6⟩ := L.out.is; obtain ⟨z0, z1, z2, z3, z4, z5, z6⟩ := L.out.isz; have lf := L.out.fz; have zf := L.out.fzz; have ll := L.out.ll)
    | (go_at_call 54; have L := hid (L.out.set (lc' := isC 6 0 0 0 0 0 (tkV 4 ts st.on)) 6 (.int .i64 (tkV 4 ts st.on)) rfl); refine (sign_go comma (by decide) L.out.r ht).mono ?_; rintro e W ⟨rfl, t1, r1⟩; have L := hid (L.out.call t1 r1); clear t1 r1; (try clear l0 l1 l2 l3 l4 l5 l6 z0 z1 z2 z3 z4 z5 z6 lf zf ll); obtain ⟨l0, l1, l2, l3, l4, l5, l6⟩ := L.out.is; obtain ⟨z0, z1, z2, z3, z4, z5, z6⟩ := L.out.isz; have lf := L.out.fz; have zf := L.out.fzz; have ll := L.out.ll)
    | (go_at_call 71; refine (reg_rc L.out.r ht).mono ?_; rintro e W ⟨rfl, t1, r1⟩; have L := hid (L.out.call t1 r1); clear t1 r1; (try clear l0 l1 l2 l3 l4 l5 l6 z0 z1 z2 z3 z4 z5 z6 lf zf ll); obtain ⟨l0, l1, l2, l3, l4, l5, l6⟩ := L.out.is; obtain ⟨z0, z1, z2, z3, z4, z5, z6⟩ := L.out.isz; have lf := L.out.fz; have zf := L.out.fzz; have ll := L.out.ll)
    | (go_at_call 68; refine (has_go _ (by decide) L.out.r ht).mono ?_; (first | rw [HOut.out.1, HOut.out.2] | rw [HY.out.1, HY.out.2]); rintro e W ⟨rfl, t1, r1⟩; have L := hid (L.out.call t1 r1); clear t1 r1; (try clear l0 l1 l2 l3 l4 l5 l6 z0 z1 z2 z3 z4 z5 z6 lf zf ll); obtain ⟨l0, l1, l2, l3, l4, l5, l6⟩ := L.out.is; obtain ⟨z0, z1, z2, z3, z4, z5, z6⟩ := L.out.isz; have lf := L.out.fz; have zf := L.out.fzz; have ll := L.out.ll))
  have F := L.out |>.set (lc' := isC 6 0 0 (tkV 2 ts (signS comma ts (tkS 4 ts st.on))) 0 0 (tkV 4 ts st.on)) 3 (.int .i64 (tkV 2 ts (signS comma ts (tkS 4 ts st.on)))) rfl |>.setz (zc' := isC 6 0 0 0 0 0 0) 0 (.int .u8 6) rfl |>.setz (zc' := isC 6 0 0 0 0 0 0) 1 (.int .u8 0) rfl |>.setz (zc' := isC 6 0 0 0 0 0 0) 2 (.int .i64 0) rfl |>.setz (zc' := isC 6 0 0 (tkV 2 ts (signS comma ts (tkS 4 ts st.on))) 0 0 0) 3 (.int .i64 (tkV 2 ts (signS comma ts (tkS 4 ts st.on)))) rfl |>.setz (zc' := isC 6 0 0 (tkV 2 ts (signS comma ts (tkS 4 ts st.on))) 0 0 0) 4 (.int .i64 0) rfl |>.setz (zc' := isC 6 0 0 (tkV 2 ts (signS comma ts (tkS 4 ts st.on))) 0 0 0) 5 (.int .i64 0) rfl |>.setz (zc' := isC 6 0 0 (tkV 2 ts (signS comma ts (tkS 4 ts st.on))) 0 0 (tkV 4 ts st.on)) 6 (.int .i64 (tkV 4 ts st.on)) rfl
  obtain ⟨q0, q1, q2, q3, q4, q5, q6⟩ := F.isz
  refine bodyPost_ret (v := .tuple #[insA ⟨6, 0, 0, (tkV 2 ts (signS comma ts (tkS 4 ts st.on))), 0, 0, (tkV 4 ts st.on)⟩, .bool true]) (by simp [results, Tryz.results56, go_sem, insA, isC, q0, q1, q2, q3, q4, q5, q6]) rfl ⟨rfl, F.t, F.r⟩
set_option maxRecDepth 100000 in
set_option maxHeartbeats 8000000 in
theorem instr_put {rb g c : Nat} {ts : List Ev} {st : RS} {w : World} (h : RdAt w rb g c ts st) (ht : Tks ts) (hw : WordsH w) (hne : 1 ≠ rb) (k2 : ¬ (curE ts st).k = 2) (hOut : hasB sOut ts st = false) (hStore : hasB sStore ts st = false) (hy : hasB sPut ts st = true) : RC 56 [] rb g c ts (.tuple #[insA ⟨8, 0, 0, (tkV 2 ts st.on), (tkV 2 ts (signS comma ts (tkS 2 ts st.on))), 0, 0⟩, .bool true]) (twoS ts st.on) w := by
  have L := hid (MW.start (T := 56) h hw hne (isC 0 0 0 0 0 0 0) (isC 0 0 0 0 0 0 0))
  have HOut : Hid (hasB ⟨#[111, 117, 116]⟩ ts st = false ∧ hasS ⟨#[111, 117, 116]⟩ ts st = st) := has_f hOut
  have HStore : Hid (hasB ⟨#[115, 116, 111, 114, 101]⟩ ts st = false ∧ hasS ⟨#[115, 116, 111, 114, 101]⟩ ts st = st) := has_f hStore
  have HY : Hid (hasB ⟨#[112, 117, 116]⟩ ts st = true ∧ hasS ⟨#[112, 117, 116]⟩ ts st = st.on) := has_t hy
  have fk := field_kind (curE ts st).k (curE ts st).p (curE ts st).n (bytesOf (curE ts st).t)
  have b2 : ((curE ts st).k == 2) = false := by rw [beq_eq_false_iff_ne]; exact k2
  clear k2
  clear h hw hne hOut hStore hy
  unfold RC
  go_enter Tryz.func56, Tryz.ntmps56
  go_wp2_with (first
    | (go_at_call 37; refine (now_any rb g c ts st _ _ L.out.r L.out.r.cur).mono ?_; rintro e W ⟨rfl, t1⟩; have L := hid (L.out.call0 t1); clear t1; (try clear l0 l1 l2 l3 l4 l5 l6 z0 z1 z2 z3 z4 z5 z6 lf zf ll); obtain ⟨l0, l1, l2, l3, l4, l5, l6⟩ := L.out.is; obtain ⟨z0, z1, z2, z3, z4, z5, z6⟩ := L.out.isz; have lf := L.out.fz; have zf := L.out.fzz; have ll := L.out.ll)
    | (go_at_call 73; have L := hid (L.out.set (lc' := isC 8 0 0 0 0 0 0) 0 (.int .u8 8) rfl); refine (two_rc L.out.r ht).mono ?_; rintro e W ⟨rfl, t1, r1⟩; have L := hid (L.out.call t1 r1); clear t1 r1; (try clear l0 l1 l2 l3 l4 l5 l6 z0 z1 z2 z3 z4 z5 z6 lf zf ll); obtain ⟨l0, l1, l2, l3, l4, l5, l6⟩ := L.out.is; obtain ⟨z0, z1, z2, z3, z4, z5, z6⟩ := L.out.isz; have lf := L.out.fz; have zf := L.out.fzz; have ll := L.out.ll)
    | (go_at_call 68; refine (has_go _ (by decide) L.out.r ht).mono ?_; (first | rw [HOut.out.1, HOut.out.2] | rw [HStore.out.1, HStore.out.2] | rw [HY.out.1, HY.out.2]); rintro e W ⟨rfl, t1, r1⟩; have L := hid (L.out.call t1 r1); clear t1 r1; (try clear l0 l1 l2 l3 l4 l5 l6 z0 z1 z2 z3 z4 z5 z6 lf zf ll); obtain ⟨l0, l1, l2, l3, l4, l5, l6⟩ := L.out.is; obtain ⟨z0, z1, z2, z3, z4, z5, z6⟩ := L.out.isz; have lf := L.out.fz; have zf := L.out.fzz; have ll := L.out.ll))
  have F := L.out |>.set (lc' := isC 8 0 0 (tkV 2 ts st.on) 0 0 0) 3 (.int .i64 (tkV 2 ts st.on)) rfl |>.set (lc' := isC 8 0 0 (tkV 2 ts st.on) (tkV 2 ts (signS comma ts (tkS 2 ts st.on))) 0 0) 4 (.int .i64 (tkV 2 ts (signS comma ts (tkS 2 ts st.on)))) rfl |>.setz (zc' := isC 8 0 0 0 0 0 0) 0 (.int .u8 8) rfl |>.setz (zc' := isC 8 0 0 0 0 0 0) 1 (.int .u8 0) rfl |>.setz (zc' := isC 8 0 0 0 0 0 0) 2 (.int .i64 0) rfl |>.setz (zc' := isC 8 0 0 (tkV 2 ts st.on) 0 0 0) 3 (.int .i64 (tkV 2 ts st.on)) rfl |>.setz (zc' := isC 8 0 0 (tkV 2 ts st.on) (tkV 2 ts (signS comma ts (tkS 2 ts st.on))) 0 0) 4 (.int .i64 (tkV 2 ts (signS comma ts (tkS 2 ts st.on)))) rfl |>.setz (zc' := isC 8 0 0 (tkV 2 ts st.on) (tkV 2 ts (signS comma ts (tkS 2 ts st.on))) 0 0) 5 (.int .i64 0) rfl |>.setz (zc' := isC 8 0 0 (tkV 2 ts st.on) (tkV 2 ts (signS comma ts (tkS 2 ts st.on))) 0 0) 6 (.int .i64 0) rfl
  obtain ⟨q0, q1, q2, q3, q4, q5, q6⟩ := F.isz
  refine bodyPost_ret (v := .tuple #[insA ⟨8, 0, 0, (tkV 2 ts st.on), (tkV 2 ts (signS comma ts (tkS 2 ts st.on))), 0, 0⟩, .bool true]) (by simp [results, Tryz.results56, go_sem, insA, isC, q0, q1, q2, q3, q4, q5, q6]) rfl ⟨rfl, F.t, F.r⟩
set_option maxRecDepth 100000 in
set_option maxHeartbeats 8000000 in
theorem instr_none {rb g c : Nat} {ts : List Ev} {st : RS} {w : World} (h : RdAt w rb g c ts st) (ht : Tks ts) (hw : WordsH w) (hne : 1 ≠ rb) (k2 : ¬ (curE ts st).k = 2) (hOut : hasB sOut ts st = false) (hStore : hasB sStore ts st = false) (hPut : hasB sPut ts st = false) : RC 56 [] rb g c ts (.tuple #[insA ⟨0, 0, 0, 0, 0, 0, 0⟩, .bool false]) st w := by
  have L := hid (MW.start (T := 56) h hw hne (isC 0 0 0 0 0 0 0) (isC 0 0 0 0 0 0 0))
  have HOut : Hid (hasB ⟨#[111, 117, 116]⟩ ts st = false ∧ hasS ⟨#[111, 117, 116]⟩ ts st = st) := has_f hOut
  have HStore : Hid (hasB ⟨#[115, 116, 111, 114, 101]⟩ ts st = false ∧ hasS ⟨#[115, 116, 111, 114, 101]⟩ ts st = st) := has_f hStore
  have HPut : Hid (hasB ⟨#[112, 117, 116]⟩ ts st = false ∧ hasS ⟨#[112, 117, 116]⟩ ts st = st) := has_f hPut
  have fk := field_kind (curE ts st).k (curE ts st).p (curE ts st).n (bytesOf (curE ts st).t)
  have b2 : ((curE ts st).k == 2) = false := by rw [beq_eq_false_iff_ne]; exact k2
  clear k2
  clear h hw hne hOut hStore hPut
  unfold RC
  go_enter Tryz.func56, Tryz.ntmps56
  go_wp2_with (first
    | (go_at_call 37; refine (now_any rb g c ts st _ _ L.out.r L.out.r.cur).mono ?_; rintro e W ⟨rfl, t1⟩; have L := hid (L.out.call0 t1); clear t1; (try clear l0 l1 l2 l3 l4 l5 l6 z0 z1 z2 z3 z4 z5 z6 lf zf ll); obtain ⟨l0, l1, l2, l3, l4, l5, l6⟩ := L.out.is; obtain ⟨z0, z1, z2, z3, z4, z5, z6⟩ := L.out.isz; have lf := L.out.fz; have zf := L.out.fzz; have ll := L.out.ll)
    | (go_at_call 68; refine (has_go _ (by decide) L.out.r ht).mono ?_; (first | rw [HOut.out.1, HOut.out.2] | rw [HStore.out.1, HStore.out.2] | rw [HPut.out.1, HPut.out.2]); rintro e W ⟨rfl, t1, r1⟩; have L := hid (L.out.call t1 r1); clear t1 r1; (try clear l0 l1 l2 l3 l4 l5 l6 z0 z1 z2 z3 z4 z5 z6 lf zf ll); obtain ⟨l0, l1, l2, l3, l4, l5, l6⟩ := L.out.is; obtain ⟨z0, z1, z2, z3, z4, z5, z6⟩ := L.out.isz; have lf := L.out.fz; have zf := L.out.fzz; have ll := L.out.ll))
  have F := L.out |>.setz (zc' := isC 0 0 0 0 0 0 0) 0 (.int .u8 0) rfl |>.setz (zc' := isC 0 0 0 0 0 0 0) 1 (.int .u8 0) rfl |>.setz (zc' := isC 0 0 0 0 0 0 0) 2 (.int .i64 0) rfl |>.setz (zc' := isC 0 0 0 0 0 0 0) 3 (.int .i64 0) rfl |>.setz (zc' := isC 0 0 0 0 0 0 0) 4 (.int .i64 0) rfl |>.setz (zc' := isC 0 0 0 0 0 0 0) 5 (.int .i64 0) rfl |>.setz (zc' := isC 0 0 0 0 0 0 0) 6 (.int .i64 0) rfl
  obtain ⟨q0, q1, q2, q3, q4, q5, q6⟩ := F.isz
  refine bodyPost_ret (v := .tuple #[insA ⟨0, 0, 0, 0, 0, 0, 0⟩, .bool false]) (by simp [results, Tryz.results56, go_sem, insA, isC, q0, q1, q2, q3, q4, q5, q6]) rfl ⟨rfl, F.t, F.r⟩
set_option maxRecDepth 100000 in
set_option maxHeartbeats 8000000 in
theorem instr_set {rb g c : Nat} {ts : List Ev} {st : RS} {w : World} (h : RdAt w rb g c ts st) (ht : Tks ts) (hw : WordsH w) (hne : 1 ≠ rb) (x : InsM) (s1 : RS) (hx : (setD ts st).1 = x) (hs : (setD ts st).2 = s1) (hk : (curE ts st).k = 2) : RC 56 [] rb g c ts (.tuple #[insA x, .bool true]) s1 w := by
  have L := hid (MW.start (T := 56) h hw hne (isC 0 0 0 0 0 0 0) (isC 0 0 0 0 0 0 0))
  have HK := hid hk
  have fk := field_kind 2 (curE ts st).p (curE ts st).n (bytesOf (curE ts st).t)
  have HX := hid hx
  have HS := hid hs
  clear hk hx hs
  clear h hw hne
  unfold RC
  go_enter Tryz.func56, Tryz.ntmps56
  go_wp2_with (first
    | (go_at_call 37; refine (now_any rb g c ts st _ _ L.out.r L.out.r.cur).mono ?_; rw [HK.out]; rintro e W ⟨rfl, t1⟩; have L := hid (L.out.call0 t1); clear t1; (try clear l0 l1 l2 l3 l4 l5 l6 z0 z1 z2 z3 z4 z5 z6 lf zf ll); obtain ⟨l0, l1, l2, l3, l4, l5, l6⟩ := L.out.is; obtain ⟨z0, z1, z2, z3, z4, z5, z6⟩ := L.out.isz; have lf := L.out.fz; have zf := L.out.fzz; have ll := L.out.ll)
    | (go_at_call 70; refine (setting_rc L.out.r ht L.out.h.1 L.out.h.2.2).mono ?_; rw [HX.out, HS.out]; unfold insA isC; rintro e W ⟨rfl, t1, r1⟩; have L := hid (L.out.call t1 r1); clear t1 r1; (try clear l0 l1 l2 l3 l4 l5 l6 z0 z1 z2 z3 z4 z5 z6 lf zf ll); obtain ⟨l0, l1, l2, l3, l4, l5, l6⟩ := L.out.is; obtain ⟨z0, z1, z2, z3, z4, z5, z6⟩ := L.out.isz; have lf := L.out.fz; have zf := L.out.fzz; have ll := L.out.ll))
  have F := L.out |>.set (lc' := isC x.k 0 0 0 0 0 0) 0 (.int .u8 x.k) rfl |>.set (lc' := isC x.k x.o 0 0 0 0 0) 1 (.int .u8 x.o) rfl |>.set (lc' := isC x.k x.o x.d 0 0 0 0) 2 (.int .i64 x.d) rfl |>.set (lc' := isC x.k x.o x.d x.a 0 0 0) 3 (.int .i64 x.a) rfl |>.set (lc' := isC x.k x.o x.d x.a x.b 0 0) 4 (.int .i64 x.b) rfl |>.set (lc' := isC x.k x.o x.d x.a x.b x.n 0) 5 (.int .i64 x.n) rfl |>.set (lc' := isC x.k x.o x.d x.a x.b x.n x.s) 6 (.int .i64 x.s) rfl |>.setz (zc' := isC x.k 0 0 0 0 0 0) 0 (.int .u8 x.k) rfl |>.setz (zc' := isC x.k x.o 0 0 0 0 0) 1 (.int .u8 x.o) rfl |>.setz (zc' := isC x.k x.o x.d 0 0 0 0) 2 (.int .i64 x.d) rfl |>.setz (zc' := isC x.k x.o x.d x.a 0 0 0) 3 (.int .i64 x.a) rfl |>.setz (zc' := isC x.k x.o x.d x.a x.b 0 0) 4 (.int .i64 x.b) rfl |>.setz (zc' := isC x.k x.o x.d x.a x.b x.n 0) 5 (.int .i64 x.n) rfl |>.setz (zc' := isC x.k x.o x.d x.a x.b x.n x.s) 6 (.int .i64 x.s) rfl
  obtain ⟨q0, q1, q2, q3, q4, q5, q6⟩ := F.isz
  refine bodyPost_ret (v := .tuple #[insA x, .bool true]) (by simp [results, Tryz.results56, go_sem, insA, isC, q0, q1, q2, q3, q4, q5, q6]) rfl ⟨rfl, F.t, F.r⟩
theorem instr_some {rb g c : Nat} {ts : List Ev} {st : RS} {w : World} (h : RdAt w rb g c ts st) (ht : Tks ts) (hw : WordsH w) (hne : 1 ≠ rb) {x : InsM} {s1 : RS} (hi : insD ts st = some (x, s1)) : RC 56 [] rb g c ts (.tuple #[insA x, .bool true]) s1 w := by
  unfold insD at hi
  by_cases k2 : (curE ts st).k = 2
  · rw [if_pos k2] at hi
    have e := Option.some.inj hi
    exact instr_set h ht hw hne x s1 (by rw [e]) (by rw [e]) k2
  · rw [if_neg k2] at hi
    cases h1 : hasB sOut ts st
    · cases h2 : hasB sStore ts st
      · cases h3 : hasB sPut ts st
        · rw [h1, h2, h3] at hi; cases hi
        · rw [h1, h2, h3] at hi; cases hi; exact instr_put h ht hw hne k2 h1 h2 h3
      · rw [h1, h2] at hi; cases hi; exact instr_store h ht hw hne k2 h1 h2
    · rw [h1] at hi; cases hi; exact instr_out h ht hw hne k2 h1
theorem instr_no {rb g c : Nat} {ts : List Ev} {st : RS} {w : World} (h : RdAt w rb g c ts st) (ht : Tks ts) (hw : WordsH w) (hne : 1 ≠ rb) (hi : insD ts st = none) : RC 56 [] rb g c ts (.tuple #[insA ⟨0, 0, 0, 0, 0, 0, 0⟩, .bool false]) st w := by
  unfold insD at hi
  by_cases k2 : (curE ts st).k = 2
  · rw [if_pos k2] at hi; cases hi
  · rw [if_neg k2] at hi
    cases h1 : hasB sOut ts st
    · cases h2 : hasB sStore ts st
      · cases h3 : hasB sPut ts st
        · exact instr_none h ht hw hne k2 h1 h2 h3
        · rw [h1, h2, h3] at hi; cases hi
      · rw [h1, h2] at hi; cases hi
    · rw [h1] at hi; cases hi
end Go.Proofs.YtmikkacillfdeaaGreatDoor

