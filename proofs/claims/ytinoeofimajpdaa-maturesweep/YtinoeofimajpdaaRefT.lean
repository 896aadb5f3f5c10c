/- Contracts of the document's free, find, Size and Count. -/
import Derived.Test.YtinoeofimajpdaaRefS
namespace Go.Proofs.Ytinoeofimajpdaa
open Go.RowKit

/-- Does something of the cell lie in page n? -/
def onB (F G n : Int) (c : Rc) : Bool := decide (ofI F G c.pos ≤ n) && decide (n ≤ ofI F G (c.pos + c.words - 1))

def freeB (F G : Int) (cs : List Rc) (n : Int) : Bool := cs.all fun c => !onB F G n c

set_option maxHeartbeats 4000000 in
theorem free_any (a : Nat) (F P G n : Int) (v : Value) (cs : List Rc) (pb : Nat) (ps : List Bool) (w : World) (h : IsRf w a F P G v cs pb ps) :
    Calls Try.prog 35 #[spP a, .int .i64 n] w fun e w' => e = .returned (.bool (freeB F G cs n)) ∧ Below w.heap.size w w' := by
  have few := h.few
  have HH := Lib.hid h
  obtain ⟨ao, cap, rfl, _⟩ := h.lies
  clear h
  unfold spP
  go_enter Try.func35, Try.ntmps35
  go_wp2_with fail
  go_loopw [5] (fun s wr => ∃ j : Nat, j ≤ cs.length ∧ s = .int .i64 j ∧ (∀ k c, k < j → cs[k]? = some c → onB F G n c = false) ∧ Below w.heap.size w wr) (fun s _ => cs.length - (intOf s).toNat)
  case atStart => exact ⟨0, Nat.zero_le _, rfl, fun k c hk => by omega, Below.refl _ _⟩
  case round =>
    obtain ⟨j, hj, rfl, ht, bb⟩ := hrel
    have HT := Lib.hid ht
    clear ht
    have hi := HH.out.keep bb
    obtain ⟨c0, c1, c2, c3, c4, cf⟩ := hi.sp.five
    by_cases hlt : j < cs.length
    · obtain ⟨c, hc⟩ : ∃ c, cs[j]? = some c := ⟨_, List.getElem?_eq_getElem hlt⟩
      obtain ⟨ao', cap', e, hl⟩ := hi.lies
      cases e
      obtain ⟨g, rfl, glt, d0, d1, d2, d3, df⟩ := hl j c hc
      clear hl
      obtain ⟨s0, s1, s2, s3⟩ := hi.sane c (List.mem_of_getElem? hc)
      have f0 := hi.f0
      have f1 := hi.f1
      have g0 := hi.g0
      have o1 := fun (x y : Value) (w1 : World) hb => of_any a F P G c.pos x y w1 hb f0 f1 g0 (by omega) (by omega)
      have o2 := fun (x y : Value) (w1 : World) hb => of_any a F P G (c.pos + c.words - 1) x y w1 hb f0 f1 g0 (by omega) (by omega)
      have e0 : onB F G n c = (decide (ofI F G c.pos ≤ n) && decide (n ≤ ofI F G (c.pos + c.words - 1))) := rfl
      obtain ⟨q1, h1⟩ : ∃ q, ofI F G c.pos = q := ⟨_, rfl⟩
      obtain ⟨q2, h2⟩ : ∃ q, ofI F G (c.pos + c.words - 1) = q := ⟨_, rfl⟩
      rw [h1, h2] at e0
      rw [h1] at o1
      rw [h2] at o2
      clear h1 h2
      have E0 := Lib.hid e0
      have O1 := Lib.hid o1
      have O2 := Lib.hid o2
      have k0 := (hi.sp.alloc (.cells #[.int .i64 c.pos, .int .i64 c.words, .bool c.used, .bool c.large] 58))
      have kn := Blk.new wr #[.int .i64 c.pos, .int .i64 c.words, .bool c.used, .bool c.large] 58
      have b1 := Lib.hid (bb.alloc bb.size (.cells #[.int .i64 c.pos, .int .i64 c.words, .bool c.used, .bool c.large] 58))
      have HC := Lib.hid hc
      clear e0 o1 o2 hi hc
      by_cases q : q1 ≤ n
      · by_cases r : n ≤ q2
        · go_wp2_with fail
          refine (O1.out _ _ _ k0).mono ?_
          rintro e w1 ⟨rfl, m1, rfl⟩
          go_wp2_with fail
          refine (O2.out _ _ _ (k0.keep (below_drewN _ m1))).mono ?_
          rintro e w1 ⟨rfl, m2, rfl⟩
          go_wp2
          go_ret
          refine ⟨?_, below_trans b1.out (below_drewN _ _)⟩
          have : freeB F G cs n = false := by
            rw [freeB, List.all_eq_false]
            exact ⟨c, List.mem_of_getElem? HC.out, by rw [E0.out, decide_eq_true q, decide_eq_true r]; simp⟩
          rw [this]; rfl
        · go_wp2_with fail
          refine (O1.out _ _ _ k0).mono ?_
          rintro e w1 ⟨rfl, m1, rfl⟩
          go_wp2_with fail
          refine (O2.out _ _ _ (k0.keep (below_drewN _ m1))).mono ?_
          rintro e w1 ⟨rfl, m2, rfl⟩
          go_wp2
          go_roundw
          case rel => exact ⟨j + 1, by omega, by go_num, fun k d hk hd => by
            by_cases e : k = j
            · subst e
              obtain rfl : c = d := by have := HC.out.symm.trans hd; simpa using this
              rw [E0.out, decide_eq_false (show ¬ n ≤ q2 by omega), Bool.and_false]
            · exact HT.out k d (by omega) hd, below_trans b1.out (below_drewN _ _)⟩
          case measure => simp [intOf]; omega
      · go_wp2_with fail
        refine (O1.out _ _ _ k0).mono ?_
        rintro e w1 ⟨rfl, m1, rfl⟩
        go_wp2
        go_roundw
        case rel => exact ⟨j + 1, by omega, by go_num, fun k d hk hd => by
          by_cases e : k = j
          · subst e
            obtain rfl : c = d := by have := HC.out.symm.trans hd; simpa using this
            rw [E0.out, decide_eq_false (show ¬ q1 ≤ n by omega), Bool.false_and]
          · exact HT.out k d (by omega) hd, below_trans b1.out (below_drewN _ _)⟩
        case measure => simp [intOf]; omega
    · obtain rfl : j = cs.length := by omega
      clear hi
      go_wp2
      go_ret
      refine ⟨?_, bb⟩
      have : freeB F G cs n = true := by
        rw [freeB, List.all_eq_true]
        intro c hc
        obtain ⟨k, hk, rfl⟩ := List.getElem_of_mem hc
        rw [HT.out k _ hk (List.getElem?_eq_getElem hk)]
        rfl
      rw [this]; rfl

def hitB (n : Int) (c : Rc) : Bool := decide (c.pos = n) && c.used

/-- Where the first cell in use lies that begins at n; below 0: nowhere. -/
def findI (cs : List Rc) (n : Int) : Int := match cs.findIdx? (hitB n) with
  | some i => i
  | none => -1

set_option maxHeartbeats 4000000 in
theorem find_any (a : Nat) (F P G n : Int) (v : Value) (cs : List Rc) (pb : Nat) (ps : List Bool) (w : World) (h : IsRf w a F P G v cs pb ps) :
    Calls Try.prog 39 #[spP a, .int .i64 n] w fun e w' => e = .returned (.int .i64 (findI cs n)) ∧ w = w' := by
  have few := h.few
  obtain ⟨c0, c1, c2, c3, c4, cf⟩ := h.sp.five
  obtain ⟨ao, cap, rfl, hl⟩ := h.lies
  have HL := Lib.hid hl
  clear h hl
  unfold spP
  go_enter Try.func39, Try.ntmps39
  go_wp2_with fail
  go_loopw [5] (fun s wr => ∃ j : Nat, j ≤ cs.length ∧ s = .int .i64 j ∧ (∀ k c, k < j → cs[k]? = some c → hitB n c = false) ∧ w = wr) (fun s _ => cs.length - (intOf s).toNat)
  case atStart => exact ⟨0, Nat.zero_le _, rfl, fun k c hk => by omega, rfl⟩
  case round =>
    obtain ⟨j, hj, rfl, ht, rfl⟩ := hrel
    have HT := Lib.hid ht
    clear ht
    by_cases hlt : j < cs.length
    · obtain ⟨c, hc⟩ : ∃ c, cs[j]? = some c := ⟨_, List.getElem?_eq_getElem hlt⟩
      obtain ⟨g, rfl, glt, d0, d1, d2, d3, df⟩ := HL.out j c hc
      have HC := Lib.hid hc
      clear hc HL
      have e0 : hitB n c = (decide (c.pos = n) && c.used) := rfl
      have next : hitB n c = false → ∀ k d, k < j + 1 → cs[k]? = some d → hitB n d = false := fun hn k d hk hd => by
        by_cases e : k = j
        · subst e
          obtain rfl : c = d := by have := HC.out.symm.trans hd; simpa using this
          exact hn
        · exact HT.out k d (by omega) hd
      have NX := Lib.hid next
      have E0 := Lib.hid e0
      clear next e0
      by_cases q : c.pos = n
      · cases u : c.used
        · rw [u] at d2
          have N1 := Lib.hid (NX.out (by rw [E0.out, u, Bool.and_false]))
          clear NX
          go_wp2
          go_roundw
          case rel => exact ⟨j + 1, by omega, by go_num, N1.out, by trivial⟩
          case measure => simp [intOf]; omega
        · rw [u] at d2
          have hit := Lib.hid (show findI cs n = j from by
            have : cs.findIdx? (hitB n) = some j := by
              rw [List.findIdx?_eq_some_iff_getElem]
              refine ⟨hlt, ?_, fun k hk => ?_⟩
              · have e : cs[j] = c := by have := HC.out; rw [List.getElem?_eq_getElem hlt] at this; simpa using this
                rw [e, E0.out, u, decide_eq_true q]; rfl
              · rw [HT.out k _ hk (List.getElem?_eq_getElem (by omega))]; exact Bool.false_ne_true
            rw [findI, this])
          go_wp2
          go_ret
          exact ⟨by rw [hit.out]; rfl, rfl⟩
      · have N1 := Lib.hid (NX.out (by rw [E0.out, decide_eq_false q, Bool.false_and]))
        clear NX
        have qd : decide (c.pos = n) = false := decide_eq_false q
        go_wp2
        go_roundw
        case rel => exact ⟨j + 1, by omega, by go_num, N1.out, by trivial⟩
        case measure => simp [intOf]; omega
    · obtain rfl : j = cs.length := by omega
      have hit := Lib.hid (show findI cs n = -1 from by
        have : cs.findIdx? (hitB n) = none := by
          rw [List.findIdx?_eq_none_iff]
          intro x hx
          obtain ⟨k, hk, rfl⟩ := List.getElem_of_mem hx
          exact HT.out k _ hk (List.getElem?_eq_getElem hk)
        rw [findI, this])
      go_wp2
      go_ret
      exact ⟨by rw [hit.out]; rfl, rfl⟩

def sizeV (cs : List Rc) (n : Int) : Value := match cs.find? (hitB n) with
  | some c => .tuple #[.int .i64 c.words, .bool true]
  | none => .tuple #[.int .i64 0, .bool false]

theorem findI_cases (cs : List Rc) (n : Int) : (∃ (i : Nat) (c : Rc), findI cs n = i ∧ cs[i]? = some c ∧ cs.find? (hitB n) = some c ∧ hitB n c = true) ∨ (findI cs n = -1 ∧ cs.find? (hitB n) = none) := by
  unfold findI
  cases h : cs.findIdx? (hitB n) with
  | none => exact Or.inr ⟨rfl, by rw [List.findIdx?_eq_none_iff] at h; rw [List.find?_eq_none]; intro x hx; rw [h x hx]; exact Bool.false_ne_true⟩
  | some i =>
    have h1 := List.findIdx?_eq_some_iff_getElem.1 h
    obtain ⟨hi, hp, hn⟩ := h1
    refine Or.inl ⟨i, cs[i], rfl, List.getElem?_eq_getElem hi, ?_, hp⟩
    rw [List.find?_eq_some_iff_getElem]
    exact ⟨hp, i, hi, rfl, fun j hj => by simpa using hn j hj⟩

set_option maxHeartbeats 4000000 in
theorem refSize_any (a : Nat) (F P G n : Int) (v : Value) (cs : List Rc) (pb : Nat) (ps : List Bool) (w : World) (h : IsRf w a F P G v cs pb ps) :
    Calls Try.prog 44 #[spP a, .int .i64 n] w fun e w' => e = .returned (sizeV cs n) ∧ w = w' := by
  have few := h.few
  have hF := find_any a F P G n v cs pb ps w h
  obtain ⟨c0, c1, c2, c3, c4, cf⟩ := h.sp.five
  rcases findI_cases cs n with ⟨i, c, e1, e2, e3, e4⟩ | ⟨e1, e2⟩
  · have hil : i < cs.length := (List.getElem?_eq_some_iff.1 e2).1
    obtain ⟨ao, cap, rfl, hl⟩ := h.lies
    obtain ⟨g, rfl, glt, d0, d1, d2, d3, df⟩ := hl i c e2
    rw [e1] at hF
    have E := Lib.hid (show sizeV cs n = .tuple #[.int .i64 c.words, .bool true] from by rw [sizeV, e3])
    have HF := Lib.hid hF
    clear hF hl h e1 e2 e3 e4
    unfold spP at HF ⊢
    go_enter Try.func44, Try.ntmps44
    go_wp2_with fail
    refine HF.out.mono ?_
    rintro e w1 ⟨rfl, rfl⟩
    go_wp2
    go_ret2
    exact ⟨by rw [E.out]; rfl, rfl⟩
  · rw [e1] at hF
    have E := Lib.hid (show sizeV cs n = .tuple #[.int .i64 0, .bool false] from by rw [sizeV, e2])
    have HF := Lib.hid hF
    clear hF h e1 e2
    unfold spP at HF ⊢
    go_enter Try.func44, Try.ntmps44
    go_wp2_with fail
    refine HF.out.mono ?_
    rintro e w1 ⟨rfl, rfl⟩
    go_wp2
    go_ret2
    exact ⟨by rw [E.out]; rfl, rfl⟩

/-- Pages below k that are free. -/
def freesI (F G : Int) (cs : List Rc) : Nat → Int
  | 0 => 0
  | k + 1 => freesI F G cs k + (if freeB F G cs k then 1 else 0)

def usedI : List Rc → Int
  | [] => 0
  | c :: cs => (if c.used then c.words else 0) + usedI cs

theorem freesI_in (F G : Int) (cs : List Rc) (k : Nat) : 0 ≤ freesI F G cs k ∧ freesI F G cs k ≤ k := by
  induction k with
  | zero => exact ⟨Int.le_refl _, Int.le_refl _⟩
  | succ k ih => simp only [freesI]; split <;> omega

theorem usedI_in (cs : List Rc) (h : ∀ c ∈ cs, Sane c) : 0 ≤ usedI cs ∧ usedI cs ≤ 2097152 * cs.length := by
  induction cs with
  | nil => exact ⟨Int.le_refl _, Int.le_refl _⟩
  | cons c cs ih =>
    have := ih fun d hd => h d (List.mem_cons_of_mem _ hd)
    obtain ⟨s0, s1, s2, s3⟩ := h c (List.mem_cons_self ..)
    simp only [usedI, List.length_cons]
    split <;> omega

theorem usedI_snoc (cs : List Rc) (c : Rc) : usedI (cs ++ [c]) = usedI cs + (if c.used then c.words else 0) := by
  induction cs with
  | nil => simp [usedI]
  | cons d cs ih => simp only [List.cons_append, usedI, ih]; omega

theorem take_snoc {α : Type} {cs : List α} {j : Nat} {c : α} (h : cs[j]? = some c) : cs.take (j + 1) = cs.take j ++ [c] := by
  rw [List.take_add_one, h]; rfl

set_option maxHeartbeats 4000000 in
theorem count_any (a : Nat) (F P G : Int) (v : Value) (cs : List Rc) (pb : Nat) (ps : List Bool) (w : World) (h : IsRf w a F P G v cs pb ps) :
    Calls Try.prog 43 #[spP a] w fun e w' => e = .returned (.tuple #[.int .i64 (freesI F G cs ps.length), .int .i64 (usedI cs)]) ∧ Below w.heap.size w w' := by
  have few := h.few
  have p1 := h.p1
  have pl := h.pl
  have HH := Lib.hid h
  obtain ⟨ao, cap, rfl, _⟩ := h.lies
  clear h
  unfold spP
  go_enter Try.func43, Try.ntmps43
  go_wp2_with fail
  go_loopw [2, 4] (fun s s4 wr => ∃ (k : Nat) (q : Int), k ≤ ps.length ∧ s4 = .int .i64 k ∧ s = .int .i64 q ∧ Hid (q = freesI F G cs k) ∧ 0 ≤ q ∧ q ≤ k ∧ Below w.heap.size w wr) (fun _ s4 _ => ps.length - (intOf s4).toNat)
  case atStart => exact ⟨0, 0, Nat.zero_le _, rfl, rfl, Lib.hid rfl, by omega, by omega, Below.refl _ _⟩
  case round =>
    obtain ⟨k, q, hk, rfl, rfl, HQ, q0, q1, bb⟩ := hrel
    have hi := HH.out.keep bb
    obtain ⟨c0, c1, c2, c3, c4, cf⟩ := hi.sp.five
    by_cases hlt : k < ps.length
    · have hF := free_any a F P G k _ cs pb ps wr hi
      have HS : Hid (freesI F G cs (k + 1) = freesI F G cs k + (if freeB F G cs k then 1 else 0)) := Lib.hid rfl
      clear hi
      cases fb : freeB F G cs k
      · rw [fb] at HS hF
        have HF := Lib.hid hF
        clear hF fb
        go_wp2_with fail
        refine HF.out.mono ?_
        rintro e w1 ⟨rfl, b1⟩
        go_wp2
        go_roundw
        case rel => exact ⟨k + 1, q, by omega, by go_num, rfl, Lib.hid (by rw [HS.out, HQ.out]; simp), by omega, by omega, below_trans bb b1⟩
        case measure => simp [intOf]; omega
      · rw [fb] at HS hF
        have HF := Lib.hid hF
        clear hF fb
        go_wp2_with fail
        refine HF.out.mono ?_
        rintro e w1 ⟨rfl, b1⟩
        go_wp2
        go_roundw
        case rel => exact ⟨k + 1, q + 1, by omega, by go_num, by go_num, Lib.hid (by rw [HS.out, HQ.out]; simp), by omega, by omega, below_trans bb b1⟩
        case measure => simp [intOf]; omega
    · obtain rfl : k = ps.length := by omega
      have sane := Lib.hid hi.sane
      have lies := hi.lies
      clear hi
      obtain ⟨ao', cap', e, hl⟩ := lies
      cases e
      have HL := Lib.hid hl
      clear hl
      go_wp2_with fail
      go_loopw [3, 5] (fun s s5 wr' => ∃ (j : Nat) (u : Int), j ≤ cs.length ∧ s5 = .int .i64 j ∧ s = .int .i64 u ∧ Hid (u = usedI (cs.take j)) ∧ 0 ≤ u ∧ u ≤ 2097152 * j ∧ wr = wr') (fun _ s5 _ => cs.length - (intOf s5).toNat)
      case atStart => exact ⟨0, 0, Nat.zero_le _, rfl, rfl, Lib.hid (by simp [usedI]), by omega, by omega, rfl⟩
      case round =>
        obtain ⟨j, u, hj, rfl, rfl, HU, u0, u1, rfl⟩ := hrel
        by_cases jlt : j < cs.length
        · obtain ⟨c, hc⟩ : ∃ c, cs[j]? = some c := ⟨_, List.getElem?_eq_getElem jlt⟩
          obtain ⟨g, rfl, glt, d0, d1, d2, d3, df⟩ := HL.out j c hc
          obtain ⟨s0, s1, s2, s3⟩ := sane.out c (List.mem_of_getElem? hc)
          have HS := Lib.hid (show usedI (cs.take (j + 1)) = usedI (cs.take j) + (if c.used then c.words else 0) from by rw [take_snoc hc, usedI_snoc])
          clear hc HL
          cases ub : c.used
          · rw [ub] at HS d2
            clear ub
            go_wp2
            go_roundw
            case rel => exact ⟨j + 1, u, by omega, by go_num, rfl, Lib.hid (by rw [HS.out, HU.out]; simp), by omega, by omega, by trivial⟩
            case measure => simp [intOf]; omega
          · rw [ub] at HS d2
            clear ub
            go_wp2
            go_roundw
            case rel => exact ⟨j + 1, u + c.words, by omega, by go_num, by go_num, Lib.hid (by rw [HS.out, HU.out]; simp), by omega, by omega, by trivial⟩
            case measure => simp [intOf]; omega
        · obtain rfl : j = cs.length := by omega
          have E1 := Lib.hid (show freesI F G cs ps.length = q from HQ.out.symm)
          have E2 := Lib.hid (show usedI cs = u from by rw [HU.out, List.take_length])
          clear HL
          go_wp2
          go_ret2
          exact ⟨by rw [E1.out, E2.out]; rfl, bb⟩
end Go.Proofs.Ytinoeofimajpdaa
