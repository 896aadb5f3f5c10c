/- Contract of the document's Give. -/
import Derived.Test.YtinoeofimajpdaaRefU
import Derived.Test.YtinoeofimajpdaaRefV
namespace Go.Proofs.Ytinoeofimajpdaa
open Go.RowKit

theorem rcV_set (cs : List Rc) (i : Nat) (c : Rc) (x : Bool) (h : cs[i]? = some c) : rcV (cs.set i { c with used := x }) = (rcV cs).set (i * 4 + 2) (.bool x) := by
  induction cs generalizing i with
  | nil => simp at h
  | cons d cs ih =>
    cases i with
    | zero =>
      obtain rfl : d = c := by simpa using h
      simp [rcV, Rc.vs]
    | succ i =>
      have := ih i (by simpa using h)
      simp only [rcV, List.set_cons_succ, List.flatMap_cons] at this ⊢
      rw [this, List.set_append_right _ _ (by simp [Rc.vs]; omega)]
      congr 2
      simp [Rc.vs]
      omega

/-- A cell's flag is set. -/
theorem IsRf.setUsed {w : World} {a : Nat} {F P G : Int} {cs : List Rc} {pb g cap i : Nat} {ps : List Bool} {c : Rc} (h : IsRf w a F P G (.slice (some ⟨g, 0, none⟩) cs.length cap) cs pb ps) (hi : cs[i]? = some c) (x : Bool) :
    IsRf (w.setCell ⟨g, i * 4 + 2, none⟩ (.bool x)) a F P G (.slice (some ⟨g, 0, none⟩) cs.length cap) (cs.set i { c with used := x }) pb ps := by
  rcases h.row.2 with ⟨e, _⟩ | ⟨g', cap', cur, e, hb, hg, hn, hm, hs, ht⟩
  · cases e
  · cases e
    have hB : Blk w g cur 58 := hg
    refine { h with sp := h.sp.far (p := ⟨g, _, none⟩) (Blk.ne_ h.sp hB (by decide)) _, row := ?_, pend := h.pend.far (p := ⟨g, _, none⟩) (Blk.ne_ h.pend hB (by decide)) _, sane := ?_, few := by rw [List.length_set]; exact h.few }
    · refine ⟨by rw [rcV_length], .inr ⟨g, cap, cur.setIfInBounds (i * 4 + 2) (.bool x), by rw [List.length_set], hb, hB.set_ _ _, by rw [List.length_set]; exact hn, hm, by simpa using hs, ?_⟩⟩
      rw [List.length_set, Array.toList_setIfInBounds, List.take_set, ht, rcV_set cs i c x hi]
    · intro d hd
      rcases List.mem_or_eq_of_mem_set hd with hd | rfl
      · exact h.sane d hd
      · exact h.sane c (List.mem_of_getElem? hi)

/-- Is something in use that begins in page n? -/
def someB (F G n : Int) (cs : List Rc) : Bool := cs.any fun c => decide (ofI F G c.pos = n) && c.used

theorem someB_snoc (F G n : Int) (cs : List Rc) (c : Rc) : someB F G n (cs ++ [c]) = (someB F G n cs || (decide (ofI F G c.pos = n) && c.used)) := by simp [someB]

def otherB (F G n : Int) (c : Rc) : Bool := !decide (ofI F G c.pos = n)

/-- What is left of the cells when something is given back. -/
def giveC (F G n : Int) (cs : List Rc) : List Rc := match cs.findIdx? (hitB n) with
  | none => cs
  | some i =>
    let ds := cs.modify i fun c => { c with used := false }
    if someB F G (ofI F G n) ds then ds else ds.filter (otherB F G (ofI F G n))

def giveP (F G n : Int) (cs : List Rc) (ps : List Bool) : List Bool := match cs.findIdx? (hitB n) with
  | none => ps
  | some i => if someB F G (ofI F G n) (cs.modify i fun c => { c with used := false }) then ps else ps.set (ofI F G n).toNat false

theorem info_cell : (Try.prog.info? 58).map (fun i => (i.zero, i.size, i.bytes)) = some (some (.agg #[.int .i64 0, .int .i64 0, .bool false, .bool false]), 4, 24) := by kernel_rfl

theorem rcV_snoc (cs : List Rc) (c : Rc) : rcV (cs ++ [c]) = rcV cs ++ c.vs := by simp [rcV]

theorem modify_set {α : Type} (cs : List α) (i : Nat) (c : α) (f : α → α) (h : cs[i]? = some c) : cs.modify i f = cs.set i (f c) := by
  induction cs generalizing i with
  | nil => simp at h
  | cons d cs ih =>
    cases i with
    | zero => obtain rfl : d = c := by simpa using h
              rfl
    | succ i => simpa using ih i (by simpa using h)

/-- Other cells take the cells' place. -/
theorem IsRf.replace {w : World} {a : Nat} {F P G : Int} {v u : Value} {cs rs : List Rc} {pb : Nat} {ps : List Bool} (h : IsRf w a F P G v cs pb ps) (o : w.ownsRow 0 58 4 u rs.length (rcV rs)) (hs : ∀ c ∈ rs, Sane c) (hf : rs.length ≤ 1000000) :
    IsRf (w.setCell ⟨a, 3, none⟩ u) a F P G u rs pb ps := by
  refine { h with sp := h.sp.set_ 3 u, row := ⟨o.1, o.2.imp id ?_⟩, pend := h.pend.far (p := ⟨a, 3, none⟩) (Blk.ne_ h.pend h.sp (by decide)) _, sane := hs, few := hf }
  rintro ⟨g, cap, cur, e1, e2, e3, e4⟩
  have hg : Blk w g cur 58 := e3
  exact ⟨g, cap, cur, e1, e2, hg.far (p := ⟨a, 3, none⟩) (Blk.ne_ hg h.sp (by decide)) _, e4⟩

theorem cell_news (w : World) (c : Rc) (t : TypeId) : ∀ j u, c.vs[j]? = some u → (w.alloc (.cells #[.int .i64 c.pos, .int .i64 c.words, .bool c.used, .bool c.large] t)).cell? ((⟨w.heap.size, 0, none⟩ : Addr).add j) = some u := by
  intro j u hj
  have e : (⟨w.heap.size, 0, none⟩ : Addr).add j = ⟨w.heap.size, j, none⟩ := by
    unfold Addr.add
    by_cases h : j = 0
    · subst h; simp
    · simp [h]
  rw [e, (Blk.new w _ _).cell, ← hj]
  simp [Rc.vs]

theorem vs_one (c : Rc) : ∀ u ∈ c.vs, u.oneCell' = true := by
  intro u hu
  simp only [Rc.vs, List.mem_cons, List.not_mem_nil, or_false] at hu
  rcases hu with rfl | rfl | rfl | rfl <;> rfl

theorem other_snoc {ds : List Rc} {k : Nat} {d : Rc} (h : ds[k]? = some d) (F G q : Int) : (ds.take (k + 1)).filter (otherB F G q) = (ds.take k).filter (otherB F G q) ++ (if otherB F G q d then [d] else []) := by
  rw [take_snoc h, List.filter_append]
  congr 1
  cases e : otherB F G q d <;> simp [e]

theorem ownsRow_base {w : World} {B : Nat} {e : TypeId} {k : Nat} {v : Value} {n : Nat} {xs : List Value} (h : w.ownsRow B e k v n xs) : w.ownsRow 0 e k v n xs := by
  refine ⟨h.1, h.2.imp id ?_⟩
  rintro ⟨g, cap, cur, e1, _, e3⟩
  exact ⟨g, cap, cur, e1, Nat.zero_le _, e3⟩

theorem ownsRow_below {w w' : World} {B : Nat} {e : TypeId} {k : Nat} {v : Value} {n : Nat} {xs : List Value} (h : w.ownsRow B e k v n xs) (b : Below w.heap.size w w') : w'.ownsRow B e k v n xs := by
  refine ⟨h.1, h.2.imp id ?_⟩
  rintro ⟨g, cap, cur, e1, e2, e3, e4⟩
  exact ⟨g, cap, cur, e1, e2, (b.block g (Array.getElem?_eq_some_iff.1 e3).1).trans e3, e4⟩

theorem row_nil (w : World) (t : TypeId) (k : Nat) : (w.alloc (.cells #[] t)).ownsRow w.heap.size t k (.slice (some ⟨w.heap.size, 0, none⟩) 0 0) 0 [] :=
  ⟨by simp, .inr ⟨w.heap.size, 0, #[], rfl, Nat.le_refl _, Blk.new w _ _, Nat.le_refl _, Nat.zero_le _, by simp, by simp⟩⟩

theorem ownsRow_form {w : World} {B : Nat} {e : TypeId} {k : Nat} {v : Value} {n : Nat} {xs : List Value} (h : w.ownsRow B e k v n xs) : ∃ ao cap, v = .slice ao n cap := by
  rcases h.2 with ⟨rfl, rfl⟩ | ⟨g, cap, cur, rfl, _⟩
  · exact ⟨none, 0, rfl⟩
  · exact ⟨_, cap, rfl⟩

/-- What the document's space may turn. -/
def Rf (a pb : Nat) (v : Value) (k : Nat) : Prop := k = a ∨ k = pb ∨ v.ownBlock = some k

set_option maxHeartbeats 4000000 in
set_option maxRecDepth 100000 in
theorem refGive_any (a : Nat) (F P G n : Int) (v : Value) (cs : List Rc) (pb : Nat) (ps : List Bool) (w : World) (h : IsRf w a F P G v cs pb ps) (hpg : ∀ c ∈ cs, 0 ≤ ofI F G c.pos ∧ ofI F G c.pos < ps.length) :
    Calls Try.prog 13 #[spP a, .int .i64 n] w fun e w' => e = .returned (.bool (cs.findIdx? (hitB n)).isSome) ∧ ∃ v', IsRf w' a F P G v' (giveC F G n cs) pb (giveP F G n cs ps) ∧ Frm (Rf a pb v) w w' ∧ (v'.ownBlock = v.ownBlock ∨ ∀ k, v'.ownBlock = some k → w.heap.size ≤ k) := by
  have hF := find_any a F P G n v cs pb ps w h
  cases hf : cs.findIdx? (hitB n) with
  | none =>
    rw [show findI cs n = -1 from by rw [findI, hf]] at hF
    have EC := Lib.hid (show giveC F G n cs = cs from by rw [giveC, hf])
    have EP := Lib.hid (show giveP F G n cs ps = ps from by rw [giveP, hf])
    have HH := Lib.hid h
    have HF := Lib.hid hF
    clear hF h hf hpg
    unfold spP at HF ⊢
    go_enter Try.func13, Try.ntmps13
    go_wp2_with fail
    refine HF.out.mono ?_
    rintro e w1 ⟨rfl, rfl⟩
    go_wp2
    go_ret
    exact ⟨rfl, v, by rw [EC.out, EP.out]; exact HH.out, Frm.refl _ _, Or.inl rfl⟩
  | some i =>
    rw [show findI cs n = i from by rw [findI, hf]] at hF
    obtain ⟨hil, hhit, _⟩ := List.findIdx?_eq_some_iff_getElem.1 hf
    obtain ⟨c, hc⟩ : ∃ c, cs[i]? = some c := ⟨_, List.getElem?_eq_getElem hil⟩
    have hcn : c.pos = n := by
      rw [show cs[i] = c from by rw [List.getElem?_eq_getElem hil] at hc; simpa using hc] at hhit
      simp only [hitB, Bool.and_eq_true, decide_eq_true_eq] at hhit
      exact hhit.1
    obtain ⟨s0, s1, s2, s3⟩ := h.sane c (List.mem_of_getElem? hc)
    have q01 := hpg c (List.mem_of_getElem? hc)
    rw [hcn] at q01 s0 s1
    have EC := Lib.hid (show giveC F G n cs = if someB F G (ofI F G n) (cs.set i { c with used := false }) then cs.set i { c with used := false } else (cs.set i { c with used := false }).filter (otherB F G (ofI F G n)) from by have e := modify_set cs i c (fun c => { c with used := false }) hc; simp only [giveC, hf, e])
    have EP := Lib.hid (show giveP F G n cs ps = if someB F G (ofI F G n) (cs.set i { c with used := false }) then ps else ps.set (ofI F G n).toNat false from by have e := modify_set cs i c (fun c => { c with used := false }) hc; simp only [giveP, hf, e])
    clear hf hhit
    have few := h.few
    obtain ⟨c0, c1, c2, c3, c4, cf⟩ := h.sp.five
    obtain ⟨ao, cap, rfl, hl⟩ := h.lies
    obtain ⟨g, rfl, glt, d0, d1, d2, d3, df⟩ := hl i c hc
    have h2 := Lib.hid (h.setUsed hc false)
    have fr2 := Lib.hid ((Frm.refl (Rf a pb (.slice (some ⟨g, 0, none⟩) cs.length cap)) w).setCell (p := ⟨g, i * 4 + 2, none⟩) (fun _ => Or.inr (Or.inr rfl)) (.bool false))
    have dl : (cs.set i { c with used := false }).length = cs.length := List.length_set ..
    obtain ⟨ds, hds⟩ : ∃ ds, cs.set i { c with used := false } = ds := ⟨_, rfl⟩
    rw [hds] at h2 EC EP dl
    have HP := Lib.hid (show ∀ d ∈ ds, 0 ≤ ofI F G d.pos ∧ ofI F G d.pos < ps.length from fun d hd => by
      rw [← hds] at hd
      rcases List.mem_or_eq_of_mem_set hd with hd | rfl
      · exact hpg d hd
      · exact hpg c (List.mem_of_getElem? hc))
    have HF := Lib.hid hF
    have HH := Lib.hid h
    have f0 := h.f0
    have f1 := h.f1
    have g0 := h.g0
    have p1 := h.p1
    obtain ⟨q, hq⟩ : ∃ q, ofI F G n = q := ⟨_, rfl⟩
    have O1 := Lib.hid (fun m => of_any a F P G n _ _ _ (h2.out.drewN m).sp f0 f1 g0 (by omega) (by omega))
    rw [hq] at O1 EC EP q01
    clear hF hl hpg hds hc h hq
    unfold spP at HF O1 ⊢
    go_enter Try.func13, Try.ntmps13
    go_wp2_with fail
    refine HF.out.mono ?_
    rintro e w1 ⟨rfl, rfl⟩
    go_wp2_with fail
    refine (O1.out 0).mono ?_
    rintro e w1 ⟨rfl, m0, rfl⟩
    clear c0 c1 c2 c3 c4 cf d0 d1 d2 d3 df
    go_wp2_with fail
    generalize hW : w.setCell ⟨g, i * 4 + 2, none⟩ (.bool false) = W at h2 fr2 O1 ⊢
    clear hW O1 HF HH
    go_loopw [7, 8] (fun s7 s8 wr => ∃ (k : Nat) (f : Bool) (m : Nat), k ≤ cs.length ∧ s8 = .int .i64 k ∧ s7 = .bool f ∧ Hid (f = someB F G q (ds.take k)) ∧ wr = W.drewN m) (fun _ s8 _ => cs.length - (intOf s8).toNat)
    case atStart => exact ⟨0, false, m0, Nat.zero_le _, rfl, rfl, Lib.hid (by simp [someB]), rfl⟩
    case round =>
      obtain ⟨k, f, m, hk, rfl, rfl, HS, rfl⟩ := hrel
      obtain ⟨c0, c1, c2, c3, c4, cf⟩ := h2.out.sp.five
      by_cases klt : k < cs.length
      · obtain ⟨d, hd⟩ : ∃ d, ds[k]? = some d := ⟨_, List.getElem?_eq_getElem (by omega)⟩
        obtain ⟨ao, cap', e, hl⟩ := h2.out.lies
        injection e with e1 e2 e3
        obtain ⟨g', e, glt2, d0, d1, d2, d3, df⟩ := hl k d hd
        rw [← e1] at e
        cases e
        clear e1 e2 e3 hl
        have SN := Lib.hid (show someB F G q (ds.take (k + 1)) = (someB F G q (ds.take k) || (decide (ofI F G d.pos = q) && d.used)) from by rw [take_snoc hd, someB_snoc])
        obtain ⟨t0, t1, t2, t3⟩ := h2.out.sane d (List.mem_of_getElem? hd)
        have O1 := Lib.hid (of_any a F P G d.pos _ _ _ (h2.out.drewN m).sp f0 f1 g0 (by omega) (by omega))
        obtain ⟨r, hr⟩ : ∃ r, ofI F G d.pos = r := ⟨_, rfl⟩
        rw [hr] at O1 SN
        clear hd hr
        unfold spP at O1
        cases f
        · by_cases rq : r = q
          · cases u : d.used
            · rw [u] at d2 SN
              go_wp2_with fail
              refine O1.out.mono ?_
              rintro e w1 ⟨rfl, m1, rfl⟩
              go_wp2
              go_roundw
              case rel => exact ⟨k + 1, false, m + m1, by omega, by go_num, rfl, Lib.hid (by rw [SN.out, ← HS.out, Bool.and_false]; rfl), rfl⟩
              case measure => simp [intOf]; omega
            · rw [u] at d2 SN
              have SN2 := Lib.hid (show true = someB F G q (ds.take (k + 1)) from by rw [SN.out, decide_eq_true rq, Bool.and_true, Bool.or_true])
              go_wp2_with fail
              refine O1.out.mono ?_
              rintro e w1 ⟨rfl, m1, rfl⟩
              go_wp2
              go_roundw
              case rel => exact ⟨k + 1, true, m + m1, by omega, by go_num, rfl, SN2, rfl⟩
              case measure => simp [intOf]; omega
          · have SN2 := Lib.hid (show false = someB F G q (ds.take (k + 1)) from by rw [SN.out, decide_eq_false rq, ← HS.out]; rfl)
            have rd : decide (r = q) = false := decide_eq_false rq
            go_wp2_with fail
            refine O1.out.mono ?_
            rintro e w1 ⟨rfl, m1, rfl⟩
            go_wp2
            go_roundw
            case rel => exact ⟨k + 1, false, m + m1, by omega, by go_num, rfl, SN2, rfl⟩
            case measure => simp [intOf]; omega
        · go_wp2
          go_roundw
          case rel => exact ⟨k + 1, true, m, by omega, by go_num, rfl, Lib.hid (by rw [SN.out, ← HS.out, Bool.true_or]), rfl⟩
          case measure => simp [intOf]; omega
      · obtain rfl : k = cs.length := by omega
        have HS2 := Lib.hid (show someB F G q ds = f from by rw [HS.out, List.take_of_length_le (by omega)])
        cases f
        · rw [HS2.out, if_neg Bool.false_ne_true] at EC EP
          have h3 := Lib.hid (h2.out.drewN m)
          have fr3 := Lib.hid (fr2.out.drewN m)
          clear c0 c1 c2 c3 c4 cf h2 fr2 HS HS2
          generalize W.drewN m = U at h3 fr3 ⊢
          obtain ⟨i0, hi, hz, hs, hb⟩ := info_parts info_cell
          have HI0 := Lib.hid (And.intro hi (And.intro hz (And.intro hs hb)))
          clear hi hz hs hb
          obtain ⟨c0, c1, c2, c3, c4, cf⟩ := h3.out.sp.five
          go_wp2_with fail
          clear c0 c1 c2 c3 c4 cf
          go_loopw [9, 10] (fun s9 s10 wr => ∃ (k : Nat) (rs : List Rc), k ≤ cs.length ∧ s10 = .int .i64 k ∧ rs.length ≤ k ∧ Hid (rs = (ds.take k).filter (otherB F G q)) ∧ Hid (wr.ownsRow U.heap.size 58 4 s9 rs.length (rcV rs)) ∧ Below U.heap.size U wr) (fun _ s10 _ => cs.length - (intOf s10).toNat)
          case atStart => exact ⟨0, [], Nat.zero_le _, rfl, Nat.zero_le _, Lib.hid (by simp), Lib.hid (row_nil U _ _), (Below.refl _ _).alloc (Nat.le_refl _) _⟩
          case round =>
            obtain ⟨k, rs, hk, rfl, rl, HR, HO, bb⟩ := hrel
            have hi := h3.out.keep bb
            obtain ⟨c0, c1, c2, c3, c4, cf⟩ := hi.sp.five
            by_cases klt : k < cs.length
            · obtain ⟨d, hd⟩ : ∃ d, ds[k]? = some d := ⟨_, List.getElem?_eq_getElem (by omega)⟩
              obtain ⟨ao, cap', e, hl⟩ := hi.lies
              injection e with e1 e2 e3
              obtain ⟨g', e, glt2, d0, d1, d2, d3, df⟩ := hl k d hd
              rw [← e1] at e
              cases e
              clear e1 e2 e3 hl
              have FS := Lib.hid (other_snoc hd F G q)
              obtain ⟨t0, t1, t2, t3⟩ := hi.sane d (List.mem_of_getElem? hd)
              have O1 := Lib.hid (of_any a F P G d.pos _ _ _ hi.sp f0 f1 g0 (by omega) (by omega))
              have OB := Lib.hid (show otherB F G q d = !decide (ofI F G d.pos = q) from rfl)
              obtain ⟨r, hr⟩ : ∃ r, ofI F G d.pos = r := ⟨_, rfl⟩
              rw [hr] at O1 OB
              clear hd hr
              unfold spP at O1
              by_cases rq : r = q
              · have FS2 := Lib.hid (show rs = (ds.take (k + 1)).filter (otherB F G q) from by rw [FS.out, OB.out, decide_eq_true rq, ← HR.out]; simp)
                go_wp2_with fail
                refine O1.out.mono ?_
                rintro e w1 ⟨rfl, m1, rfl⟩
                go_wp2
                go_roundw
                case rel => exact ⟨k + 1, rs, by omega, by go_num, by omega, FS2, Lib.hid (ownsRow_below HO.out (below_drewN _ _)), below_trans bb (below_drewN _ _)⟩
                case measure => simp [intOf]; omega
              · have FS2 := Lib.hid (show rs ++ [d] = (ds.take (k + 1)).filter (otherB F G q) from by rw [FS.out, OB.out, decide_eq_false rq, ← HR.out]; simp)
                have rd : decide (r = q) = false := decide_eq_false rq
                go_wp2_with fail
                refine O1.out.mono ?_
                rintro e w1 ⟨rfl, m1, rfl⟩
                have O2 := Lib.hid ((ownsRow_below HO.out (below_drewN wr m1)).alloc (.cells #[.int .i64 d.pos, .int .i64 d.words, .bool d.used, .bool d.large] 58))
                have B2 := Lib.hid ((below_trans bb (below_drewN wr m1)).alloc bb.size (.cells #[.int .i64 d.pos, .int .i64 d.words, .bool d.used, .bool d.large] 58))
                go_wp2_with (first
                  | (at_builtin; refine wpList_append_own_at _ rfl _ _ 32 rfl U.heap.size 58 i0 (.agg #[.int .i64 0, .int .i64 0, .bool false, .bool false]) 4 24 Try.underlying32 HI0.out.1 HI0.out.2.1 HI0.out.2.2.1 HI0.out.2.2.2 rfl (by decide) _ _ _ rfl O2.out ⟨wr.heap.size, 0, none⟩ 1 1 d.vs rfl rfl (cell_news (wr.drewN m1) d _) (vs_one d) ?c3 ?c4 ?c5 ?_)
                  | fail)
                case c3 => unfold maxLen; omega
                case c4 => omega
                case c5 => exact B2.out.size
                intro v1 w1 hown1 hgrow1 _ _
                have b1 := Lib.hid (below_grown B2.out O2.out hgrow1)
                have o1 := Lib.hid (show w1.ownsRow U.heap.size 58 4 v1 (rs ++ [d]).length (rcV (rs ++ [d])) from by rw [List.length_append, List.length_singleton, rcV_snoc]; exact hown1)
                clear hown1 hgrow1
                go_wp2
                go_roundw
                case rel => exact ⟨k + 1, rs ++ [d], by omega, by go_num, by rw [List.length_append, List.length_singleton]; omega, FS2, o1, b1.out⟩
                case measure => simp [intOf]; omega
            · obtain rfl : k = cs.length := by omega
              have E := Lib.hid (show rs = ds.filter (otherB F G q) from by rw [HR.out, List.take_of_length_le (by omega)])
              obtain ⟨bo, bcap, hu⟩ := ownsRow_form HO.out
              subst hu
              have pf := hi.pend.frozen q.toNat
              obtain ⟨pv, hpv⟩ : ∃ x, ps[q.toNat]? = some x := ⟨_, List.getElem?_eq_getElem (by omega)⟩
              have pc := hi.pend.bools hpv
              have hne : a ≠ pb := Blk.ne_ hi.sp hi.pend (by decide)
              have R1 := Lib.hid ((hi.replace (ownsRow_base HO.out) (fun x hx => by rw [E.out] at hx; exact hi.sane x (List.mem_filter.1 hx).1) (by omega)).setPend q.toNat false)
              have hU : U.heap.size ≥ w.heap.size := fr3.out.size
              have R2 := Lib.hid (((fr3.out.trans (Frm.of_below bb) (S := Rf a pb (.slice (some ⟨g, 0, none⟩) cs.length cap)) (S' := fun _ => False) (fun _ _ h => h.elim)).setCell (p := ⟨a, 3, none⟩) (fun _ => Or.inl rfl) (.slice bo rs.length bcap)).setCell (p := ⟨pb, q.toNat, none⟩) (fun _ => Or.inr (Or.inl rfl)) (.bool false))
              have R3 := Lib.hid (show ∀ k, (Value.slice bo rs.length bcap).ownBlock = some k → w.heap.size ≤ k from fun k hk => Nat.le_trans hU (HO.out.lt k hk).1)
              clear hi
              go_wp2
              go_ret
              exact ⟨rfl, _, by rw [EC.out, EP.out, ← E.out]; exact R1.out, R2.out, Or.inr R3.out⟩
        · rw [HS2.out, if_pos rfl] at EC EP
          go_wp2
          go_ret
          exact ⟨rfl, _, by rw [EC.out, EP.out]; exact h2.out.drewN m, fr2.out.drewN m, Or.inl rfl⟩
end Go.Proofs.Ytinoeofimajpdaa
