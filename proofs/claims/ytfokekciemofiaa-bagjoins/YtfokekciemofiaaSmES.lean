/- What the calls of slices.stableCmpFunc and slices.SortStableFunc with cmp.Compare come to, at any number of items. -/
import Derived.Test.YtfokekciemofiaaSmDS
import Derived.Test.YtfokekciemofiaaSmP
import Derived.Test.YtfokekciemofiaaOfS
import Derived.Shelf.SlSortCmp.Insertion1
set_option linter.unusedSimpArgs false
set_option linter.unusedVariables false
namespace Go.Proofs.Ytfokekciemofiaa
open Go.RowKit Go.Shelf Go.Sort

/-- Between two steps of the sort. -/
def SrtS (blk off n : Nat) (w0 : World) (d0 : Array (ByteArray)) (d : Array (ByteArray)) (w : World) : Prop := d.size = n ∧ SW encS w0 blk off d w ∧ PermIn 0 n d0 d
theorem srt_ins_S (blk off cap n a b : Nat) (d0 d : Array (ByteArray)) (w0 w : World) (R : Row1 encS w0 blk off d0) (hs : d0.size = n) (h : SrtS blk off n w0 d0 d w) (hab : a ≤ b) (hb : b ≤ n) (hsz : n < 1152921504606846976) :
    Calls Try.prog 111 #[.slice (some ⟨blk, off, none⟩) n cap, .int .i64 a, .int .i64 b, .func (.func 52) #[] #[]] w fun e w' => e = .returned (.tuple #[]) ∧ ∃ d', SrtS blk off n w0 d0 d' w' ∧ Mrg ltS a b d d' := by
  obtain ⟨h1, h2, h3⟩ := h
  have k := Any.insertionSortCmpFunc_s layS encS cmpS 52 #[] blk off cap a b d0 d w0 w enters_cmpS (cmpReadsS blk off d0.size w0).lays R (by omega) h2 hab (by omega) (by omega)
  rw [h1, ltOf_cmpS] at k
  obtain ⟨p1, p2⟩ := insertionSort_holds (TotLt.swo totS) d a b hab (by omega)
  refine Calls.mono k ?_
  rintro e w' ⟨rfl, s⟩
  exact ⟨rfl, _, ⟨p1.1.trans h1, s, permIn_trans _ _ _ _ _ h3 (permIn_mono _ _ _ _ _ _ (Nat.zero_le _) hb (by omega) p1)⟩, p1, p2⟩
theorem srt_sym_S (blk off cap n a m b : Nat) (d0 d : Array (ByteArray)) (w0 w : World) (R : Row1 encS w0 blk off d0) (hs : d0.size = n) (h : SrtS blk off n w0 d0 d w) (h1 : a < m) (h2 : m < b) (hb : b ≤ n) (hsz : n < 1152921504606846976) (hl : SortedIn ltS a m d) (hr : SortedIn ltS m b d) :
    Calls Try.prog 112 #[.slice (some ⟨blk, off, none⟩) n cap, .int .i64 a, .int .i64 m, .int .i64 b, .func (.func 52) #[] #[]] w fun e w' => e = .returned (.tuple #[]) ∧ ∃ d', SrtS blk off n w0 d0 d' w' ∧ Mrg ltS a b d d' := by
  obtain ⟨k1, k2, k3⟩ := h
  refine Calls.mono (sym_S blk off cap n d0 w0 R hs hsz (b - a) a m b d w (Nat.le_refl _) k1 k2 h1 h2 hb hl hr) ?_
  rintro e w' ⟨rfl, d', s1, s2, s3⟩
  exact ⟨rfl, d', ⟨s2, s1, permIn_trans _ _ _ _ _ k3 (permIn_mono _ _ _ _ _ _ (Nat.zero_le _) hb (by omega) s3.1)⟩, s3⟩
theorem seg_sorted_S (w w' : World) (b off cap : Nat) (l : List (ByteArray)) (d : Array (ByteArray)) (h : Seg w 9 (.slice (some ⟨b, off, none⟩) l.length cap) (valsS l)) (hd : d.size = l.length) (S : SW encS w b off d w') :
    Seg w' 9 (.slice (some ⟨b, off, none⟩) l.length cap) (valsS d.toList) ∧ Tch [b] w w' := by
  obtain ⟨q, os, rfl⟩ := S
  obtain ⟨s1, s2⟩ := seg_putRow encS w 9 b off cap l d.toList h (by simpa using hd) q
  have tg : Tch [b] ((putRow encS w b off d.toList.toArray).drewN q) (sortWorld encS w b off q d os) := by
    have e : sortWorld encS w b off q d os = grow (((putRow encS w b off d.toList.toArray).drewN q).drewN 0) os := by simp; rfl
    rw [e]
    exact ⟨rfl, rfl, rfl, by simp [heap_drewN], fun k hk _ => (heap_grow_old _ os hk).trans (by rw [heap_drewN])⟩
  refine ⟨s1.kept (S := []) ⟨tg.os, tg.tape, tg.output, tg.size, fun k hk _ => ?_⟩ (by simp), s2.trans tg⟩
  have e : sortWorld encS w b off q d os = grow (((putRow encS w b off d.toList.toArray).drewN q).drewN 0) os := by simp; rfl
  rw [e]
  exact (heap_grow_old _ os hk).trans (by rw [heap_drewN])
set_option maxRecDepth 100000 in
set_option maxHeartbeats 4000000 in
theorem stable_S (blk off cap n : Nat) (d0 : Array (ByteArray)) (w0 : World) (R : Row1 encS w0 blk off d0) (hs : d0.size = n) (hsz : n < 1152921504606846976) :
    Calls Try.prog 103 #[.slice (some ⟨blk, off, none⟩) n cap, .int .i64 n, .func (.func 52) #[] #[]] w0 fun e w' => e = .returned (.tuple #[]) ∧ ∃ d', SrtS blk off n w0 d0 d' w' ∧ SortedIn ltS 0 n d' := by
  have START : Hid (SrtS blk off n w0 d0 d0 w0) := ⟨hs, SW.start R.hH, permIn_refl _ _ _⟩
  have INS : Hid (∀ (a b : Nat) (d : Array (ByteArray)) (w : World), SrtS blk off n w0 d0 d w → a ≤ b → b ≤ n → Calls Try.prog 111 #[.slice (some ⟨blk, off, none⟩) n cap, .int .i64 a, .int .i64 b, .func (.func 52) #[] #[]] w fun e w' => e = .returned (.tuple #[]) ∧ ∃ d', SrtS blk off n w0 d0 d' w' ∧ Mrg ltS a b d d') := fun a b d w h h1 h2 => srt_ins_S blk off cap n a b d0 d w0 w R hs h h1 h2 hsz
  have SYM : Hid (∀ (a m b : Nat) (M : Int) (d : Array (ByteArray)) (w : World), M = (m : Int) → SrtS blk off n w0 d0 d w → a < m → m < b → b ≤ n → SortedIn ltS a m d → SortedIn ltS m b d → Calls Try.prog 112 #[.slice (some ⟨blk, off, none⟩) n cap, .int .i64 a, .int .i64 M, .int .i64 b, .func (.func 52) #[] #[]] w fun e w' => e = .returned (.tuple #[]) ∧ ∃ d', SrtS blk off n w0 d0 d' w' ∧ Mrg ltS a b d d') := fun a m b M d w e h h1 h2 h3 h4 h5 => by subst e; exact srt_sym_S blk off cap n a m b d0 d w0 w R hs h h1 h2 h3 hsz h4 h5
  clear R hs
  go_enter Try.func103, Try.ntmps103
  go_wp2
  go_loopw [7, 8] (fun va vb wr => ∃ a b : Nat, va = .int .i64 a ∧ vb = .int .i64 b ∧ b ≤ a + 20 ∧ a + 20 ≤ b ∧ a ≤ n ∧ Hid (20 ∣ a ∧ ∃ d, SrtS blk off n w0 d0 d wr ∧ InvB ltS a d)) (fun va _ _ => n - (intOf va).toNat)
  case atStart => exact ⟨0, 20, rfl, rfl, by omega, by omega, Nat.zero_le _, ⟨0, rfl⟩, d0, START.out, invB_start _⟩
  case round =>
    clear START
    obtain ⟨a, b, rfl, rfl, hb1, hb2, han, HK⟩ := hrel
    by_cases hlt : b ≤ n
    · obtain ⟨ha, d, hd, hi⟩ := HK.out
      have hc := INS.out a b d wr hd (by omega) hlt
      have HI := hid hi
      have HA := hid ha
      clear HK hd hi ha
      go_wp2_with (go_at_call 111; refine hc.mono ?_; rintro e w2 ⟨rfl, hp⟩; have HP := hid hp; clear hp)
      go_roundw
      case rel =>
        obtain ⟨d', e1, e2⟩ := HP.out
        obtain rfl : b = a + 20 := by omega
        exact ⟨a + 20, a + 20 + 20, rfl, by congr 1 <;> omega, by omega, by omega, by omega, Nat.dvd_add HA.out ⟨1, rfl⟩, d', e1, invB_step HA.out HI.out e2⟩
      case measure => simp [intOf]; omega
    · obtain ⟨ha, d, hd, hi⟩ := HK.out
      have hc := INS.out a n d wr hd han (Nat.le_refl _)
      have HI := hid hi
      have HA := hid ha
      clear HK hd hi ha
      go_wp2_with (go_at_call 111; refine hc.mono ?_; rintro e w2 ⟨rfl, hp⟩; have HP := hid hp; clear hp)
      have ST2 : Hid (∃ d, SrtS blk off n w0 d0 d w2 ∧ InvO ltS 20 n d) := by
        obtain ⟨d', e1, e2⟩ := HP.out
        exact ⟨d', e1, invB_end HA.out HI.out (by omega) han e2⟩
      clear HP HI HA hc INS
      go_loopw [6] (fun vs wr => ∃ bs : Nat, vs = .int .i64 bs ∧ 20 ≤ bs ∧ bs ≤ 2 * n + 20 ∧ Hid (∃ d, SrtS blk off n w0 d0 d wr ∧ InvO ltS bs n d)) (fun vs _ => n - (intOf vs).toNat)
      case atStart => exact ⟨20, rfl, Nat.le_refl _, by omega, ST2.out⟩
      case round =>
        clear ST2
        obtain ⟨bs, rfl, hbs, hbn, HO⟩ := hrel
        by_cases hlt2 : bs < n
        · go_wp2
          go_loopw [7, 8] (fun va vb wr => ∃ a b : Nat, va = .int .i64 a ∧ vb = .int .i64 b ∧ b ≤ a + 2 * bs ∧ a + 2 * bs ≤ b ∧ a ≤ n ∧ Hid (2 * bs ∣ a ∧ ∃ d, SrtS blk off n w0 d0 d wr ∧ InvI ltS bs n a d)) (fun va _ _ => n - (intOf va).toNat)
          case atStart =>
            obtain ⟨d, e1, e2⟩ := HO.out
            exact ⟨0, 2 * bs, rfl, by congr 1 <;> omega, by omega, by omega, Nat.zero_le _, Nat.dvd_zero _, d, e1, invI_start e2⟩
          case round =>
            clear HO
            obtain ⟨a, b, rfl, rfl, hc1, hc2, han2, HK⟩ := hrel
            obtain ⟨ha, d, hd, hi⟩ := HK.out
            obtain ⟨q1, q2⟩ := invI_parts hi ha
            have HI := hid hi
            have HA := hid ha
            clear HK hi ha
            by_cases hlt3 : b ≤ n
            · have hc := SYM.out a (a + bs) b ((a : Int) + bs) d wr (by omega) hd (by omega) (by omega) hlt3 (sorted_sub q1 (Nat.le_refl _) (by omega)) (sorted_sub q2 (Nat.le_refl _) (by omega))
              clear hd q1 q2
              go_wp2_with (go_at_call 112; refine hc.mono ?_; rintro e w3 ⟨rfl, hp⟩; have HP := hid hp; clear hp)
              go_roundw
              case rel =>
                obtain ⟨d', e1, e2⟩ := HP.out
                obtain rfl : b = a + 2 * bs := by omega
                exact ⟨a + 2 * bs, a + 2 * bs + 2 * bs, rfl, by congr 1 <;> omega, by omega, by omega, by omega, Nat.dvd_add HA.out (Nat.dvd_refl _), d', e1, invI_step (by omega) HA.out (by omega) HI.out e2⟩
              case measure => simp [intOf]; omega
            · by_cases hlt4 : a + bs < n
              · have hc := SYM.out a (a + bs) n ((a : Int) + bs) d wr (by omega) hd (by omega) (by omega) (Nat.le_refl _) (sorted_sub q1 (Nat.le_refl _) (by omega)) (sorted_sub q2 (Nat.le_refl _) (by omega))
                clear hd q1 q2
                go_wp2_with (go_at_call 112; refine hc.mono ?_; rintro e w3 ⟨rfl, hp⟩; have HP := hid hp; clear hp)
                go_roundw
                case rel =>
                  obtain ⟨d', e1, e2⟩ := HP.out
                  exact ⟨2 * bs, by congr 1 <;> omega, by omega, by omega, d', e1, invI_end1 HA.out (by omega) HI.out e2⟩
                case measure => simp [intOf]; omega
              · have HD := hid hd
                clear hd q1 q2
                go_wp2_with fail
                go_roundw
                case rel => exact ⟨2 * bs, by congr 1 <;> omega, by omega, by omega, d, HD.out, invI_end2 HA.out (by omega) (by omega) HI.out⟩
                case measure => simp [intOf]; omega
        · go_wp2
          go_end0
          obtain ⟨d, e1, e2⟩ := HO.out
          exact ⟨rfl, d, e1, invO_all e2 (by omega)⟩
/-- **SortStableFunc.** -/
theorem sort_S (k : Nat) (hk : k < 1152921504606846976) : SortsAtS k := by
  intro v l w hlk h
  rcases h with ⟨rfl, h0⟩ | ⟨b, off, cap, cur, rfl, g⟩
  · have : l = [] := by simpa [valsS] using h0
    subst this
    exact sort_few_S _ [] w (Seg.nil _ _) (by simp)
  · have sg : Seg w 9 (.slice (some ⟨b, off, none⟩) l.length cap) (valsS l) := by rw [← vals_lenS]; exact .inr ⟨b, off, cap, cur, rfl, g⟩
    have hH := seg_holds encS w 9 b off cap l sg
    have R : Row1 encS w b off l.toArray := ⟨fun _ => rfl, hH, lt_of_obj g.1⟩
    have h1 := stable_S b off cap l.length l.toArray w R (by simp) (by omega)
    have FIN : Hid (∀ w1, (∃ d', SrtS b off l.length w l.toArray d' w1 ∧ SortedIn ltS 0 l.length d') → SortedS (.slice (some ⟨b, off, none⟩) l.length cap) l w w1) := fun w1 ⟨d', ⟨e1, e2, e3⟩, e4⟩ => by
      obtain ⟨q1, q2, q3⟩ := perm_weak l d' (by simpa using e3) (by simpa using e4)
      obtain ⟨s1, s2⟩ := seg_sorted_S w w1 b off cap l d' sg e1 e2
      exact ⟨_, q2, q3, s1, by simpa [blks] using s2⟩
    rw [vals_lenS]
    obtain ⟨N, hN⟩ : ∃ N, N = l.length := ⟨_, rfl⟩
    rw [← hN] at h1 FIN ⊢
    clear sg g hH R hN hlk
    go_enter Try.func83, Try.ntmps83
    go_wp2_with (go_at_call 103; refine h1.mono ?_; rintro e w1 ⟨rfl, hs⟩; have HS := hid hs; clear hs)
    go_end0
    exact ⟨rfl, FIN.out _ HS.out⟩
end Go.Proofs.Ytfokekciemofiaa
