/- Where what is in use begins; that it lies apart and within the pages; how Take and Give turn it. Of numbers and lists alone. -/
import Derived.Test.YtinoeofimajpdaaRefP
namespace Go.Proofs.Ytinoeofimajpdaa

def usedP (F G : Int) (pgs : List Pg) : List Int := ((cellsP F G pgs).filter Rc.used).map Rc.pos

/-- Two cells do not meet. -/
theorem cells_apart {F G : Int} {pgs : List Pg} (g0 : 1 ≤ G) (wf : WF G pgs) {c d : Rc} (hc : c ∈ cellsP F G pgs) (hd : d ∈ cellsP F G pgs) (ne : c.pos < d.pos) : c.pos + c.words ≤ d.pos := by
  obtain ⟨i, x, hx, hcx⟩ := mem_cellsP.1 hc
  obtain ⟨k, y, hy, hdy⟩ := mem_cellsP.1 hd
  have start : ∀ (i : Nat) (x : Pg) (c : Rc), pgs[i]? = some x → c ∈ x.cells F G i → F + i * G ≤ c.pos ∧ c.pos < F + i * G + G := fun i x c hx hc => by
    cases x with
    | free => simp [Pg.cells] at hc
    | rest => simp [Pg.cells] at hc
    | big m => obtain rfl : c = ⟨F + i * G, m * G, true, true⟩ := by simpa [Pg.cells] using hc
               exact ⟨Int.le_refl _, by show F + (i : Int) * G < F + (i : Int) * G + G; omega⟩
    | blk s us =>
      obtain ⟨j, u, hu, rfl⟩ := mem_blk.1 hc
      obtain ⟨s0, _, hl, _⟩ := wf.blk i s us hx
      obtain ⟨p0, p1⟩ := in_page s0 hl (List.getElem?_eq_some_iff.1 hu).1
      exact ⟨by show F + (i : Int) * G ≤ F + (i : Int) * G + (j : Int) * s; omega, by show F + (i : Int) * G + (j : Int) * s < F + (i : Int) * G + G; omega⟩
  have sc := start i x c hx hcx
  have sd := start k y d hy hdy
  have ik : i ≤ k := by
    rcases Nat.lt_or_ge k i with l | l
    · have := Int.mul_le_mul_of_nonneg_right (show (k : Int) + 1 ≤ i by omega) (show 0 ≤ G by omega)
      rw [Int.add_mul, Int.one_mul] at this
      omega
    · exact l
  cases x with
  | free => simp [Pg.cells] at hcx
  | rest => simp [Pg.cells] at hcx
  | big m =>
    obtain rfl : c = ⟨F + i * G, m * G, true, true⟩ := by simpa [Pg.cells] using hcx
    show F + (i : Int) * G + (m : Int) * G ≤ d.pos
    obtain ⟨m1, m2, m3⟩ := wf.big i m hx
    have far : i + m ≤ k := by
      rcases Nat.lt_or_ge k (i + m) with l | l
      · by_cases e : k = i
        · subst e
          rw [hx] at hy
          cases hy
          obtain rfl : d = ⟨F + k * G, m * G, true, true⟩ := by simpa [Pg.cells] using hdy
          exact absurd ne (by show ¬ F + (k : Int) * G < F + (k : Int) * G; omega)
        · rw [m3 k (by omega) l] at hy
          cases hy
          simp [Pg.cells] at hdy
      · exact l
    have := Int.mul_le_mul_of_nonneg_right (show (i : Int) + m ≤ k by omega) (show 0 ≤ G by omega)
    rw [Int.add_mul] at this
    omega
  | blk s us =>
    obtain ⟨j, u, hu, rfl⟩ := mem_blk.1 hcx
    obtain ⟨s0, _, hl, _⟩ := wf.blk i s us hx
    obtain ⟨p0, p1⟩ := in_page s0 hl (List.getElem?_eq_some_iff.1 hu).1
    show F + (i : Int) * G + (j : Int) * s + s ≤ d.pos
    by_cases e : k = i
    · subst e
      rw [hx] at hy
      cases hy
      obtain ⟨j', u', hu', rfl⟩ := mem_blk.1 hdy
      have ne : F + (k : Int) * G + (j : Int) * s < F + (k : Int) * G + (j' : Int) * s := ne
      show F + (k : Int) * G + (j : Int) * s + s ≤ F + (k : Int) * G + (j' : Int) * s
      have jj : j < j' := by
        rcases Nat.lt_or_ge j j' with l | l
        · exact l
        · have := Int.mul_le_mul_of_nonneg_right (show (j' : Int) ≤ j by omega) (show 0 ≤ s by omega)
          omega
      have := Int.mul_le_mul_of_nonneg_right (show (j : Int) + 1 ≤ j' by omega) (show 0 ≤ s by omega)
      rw [Int.add_mul, Int.one_mul] at this
      omega
    · have := Int.mul_le_mul_of_nonneg_right (show (i : Int) + 1 ≤ k by omega) (show 0 ≤ G by omega)
      rw [Int.add_mul, Int.one_mul] at this
      omega

/-- A cell lies within the pages. -/
theorem cells_within {F G : Int} {pgs : List Pg} (g0 : 1 ≤ G) (wf : WF G pgs) {c : Rc} (hc : c ∈ cellsP F G pgs) : F ≤ c.pos ∧ c.pos + c.words ≤ F + pgs.length * G := by
  obtain ⟨i, x, hx, hcx⟩ := mem_cellsP.1 hc
  have hi := (List.getElem?_eq_some_iff.1 hx).1
  have i0 : (0 : Int) ≤ (i : Int) * G := Int.mul_nonneg (by omega) (by omega)
  cases x with
  | free => simp [Pg.cells] at hcx
  | rest => simp [Pg.cells] at hcx
  | big m =>
    obtain rfl : c = ⟨F + i * G, m * G, true, true⟩ := by simpa [Pg.cells] using hcx
    obtain ⟨m1, m2, _⟩ := wf.big i m hx
    have := Int.mul_le_mul_of_nonneg_right (show (i : Int) + m ≤ pgs.length by omega) (show 0 ≤ G by omega)
    rw [Int.add_mul] at this
    exact ⟨by show F ≤ F + (i : Int) * G; omega, by show F + (i : Int) * G + (m : Int) * G ≤ F + (pgs.length : Int) * G; omega⟩
  | blk s us =>
    obtain ⟨j, u, hu, rfl⟩ := mem_blk.1 hcx
    obtain ⟨s0, _, hl, _⟩ := wf.blk i s us hx
    obtain ⟨p0, p1⟩ := in_page s0 hl (List.getElem?_eq_some_iff.1 hu).1
    have := Int.mul_le_mul_of_nonneg_right (show (i : Int) + 1 ≤ pgs.length by omega) (show 0 ≤ G by omega)
    rw [Int.add_mul, Int.one_mul] at this
    exact ⟨by show F ≤ F + (i : Int) * G + (j : Int) * s; omega, by show F + (i : Int) * G + (j : Int) * s + s ≤ F + (pgs.length : Int) * G; omega⟩

theorem used_perm {cs ds : List Rc} (h : cs.Perm ds) : ((cs.filter Rc.used).map Rc.pos).Perm ((ds.filter Rc.used).map Rc.pos) := (h.filter _).map _

theorem get_split {cs : List Rc} {b : Nat} {c : Rc} (h : cs[b]? = some c) : cs = cs.take b ++ c :: cs.drop (b + 1) := by
  obtain ⟨hb, e⟩ := List.getElem?_eq_some_iff.1 h
  rw [← e, ← List.drop_eq_getElem_cons hb, List.take_append_drop]

theorem used_set {cs : List Rc} {b : Nat} {c d : Rc} (h : cs[b]? = some c) (hc : c.used = false) (hd : d.used = true) : (((cs.set b d).filter Rc.used).map Rc.pos).Perm (d.pos :: (cs.filter Rc.used).map Rc.pos) := by
  have e := get_split h
  have hp : (cs.set b d).Perm (cs.take b ++ d :: cs.drop (b + 1)) := perm_set h (by rw [← e])
  refine (used_perm hp).trans ?_
  have e2 : cs.filter Rc.used = (cs.take b).filter Rc.used ++ (cs.drop (b + 1)).filter Rc.used := by
    conv => lhs; rw [e]
    rw [List.filter_append, List.filter_cons_of_neg (by rw [hc]; exact Bool.false_ne_true)]
  rw [e2, List.filter_append, List.filter_cons_of_pos hd, List.map_append, List.map_cons, List.map_append]
  exact List.perm_middle

theorem used_unset {cs : List Rc} {b : Nat} {c d : Rc} (h : cs[b]? = some c) (hc : c.used = true) (hd : d.used = false) : ((cs.filter Rc.used).map Rc.pos).Perm (c.pos :: ((cs.set b d).filter Rc.used).map Rc.pos) := by
  have e := get_split h
  have hp : (cs.set b d).Perm (cs.take b ++ d :: cs.drop (b + 1)) := perm_set h (by rw [← e])
  refine List.Perm.trans ?_ ((used_perm hp).symm.cons c.pos)
  rw [List.filter_append, List.filter_cons_of_neg (by rw [hd]; exact Bool.false_ne_true), List.map_append]
  have e2 : cs.filter Rc.used = (cs.take b).filter Rc.used ++ c :: (cs.drop (b + 1)).filter Rc.used := by
    conv => lhs; rw [e]
    rw [List.filter_append, List.filter_cons_of_pos hc]
  rw [e2, List.map_append, List.map_cons]
  exact List.perm_middle

theorem newC_used (p s : Int) (k : Nat) : ((newC p s (k + 1)).filter Rc.used).map Rc.pos = [p] := by
  induction k with
  | zero => simp [newC, List.range_succ]
  | succ k ih =>
    rw [newC_succ, List.filter_append, List.map_append, ih, List.filter_cons_of_neg (by simp)]
    rfl

/-- What is taken is in use from then on. -/
theorem take_used {F G : Int} {ps : List Bool} {pgs pgs' : List Pg} {n x : Int} (g0 : 1 ≤ G) (g1 : G ≤ 256) (wf : WF G pgs) (h : TakeA F G ps pgs n (yesV x) pgs') :
    (usedP F G pgs').Perm (x :: usedP F G pgs) ∧ WF G pgs' ∧ ∃ c ∈ cellsP F G pgs', c.pos = x ∧ c.used = true ∧ n ≤ c.words := by
  have base : Rel F G (cellsP F G pgs) pgs := ⟨List.Perm.refl _, wf⟩
  have ex : ∀ y : Int, yesV x = yesV y → y = x := fun y e => by
    have : (#[Value.int .i64 x, .bool true] : Array Value) = #[.int .i64 y, .bool true] := by injection e
    simp at this
    exact this.symm
  have fin : ∀ (cs' : List Rc) (d : Rc), Rel F G cs' pgs' → d ∈ cs' → d.pos = x → d.used = true → n ≤ d.words → ((cs'.filter Rc.used).map Rc.pos).Perm (x :: usedP F G pgs) → (usedP F G pgs').Perm (x :: usedP F G pgs) ∧ WF G pgs' ∧ ∃ c ∈ cellsP F G pgs', c.pos = x ∧ c.used = true ∧ n ≤ c.words :=
    fun cs' d r hd h1 h2 h3 hp => ⟨(used_perm r.perm).symm.trans hp, r.wf, d, r.perm.mem_iff.1 hd, h1, h2, h3⟩
  rcases h with ⟨_, e, _⟩ | ⟨hn, hl, t⟩ | ⟨hn, hl, t⟩
  · cases e
  · rcases t with ⟨p, a1, a2, _, e, rfl⟩ | ⟨_, e, _⟩
    · have pe := pagesI_enough (p := G) (n := n) g0 (by omega)
      have e := ex _ e
      refine fin _ ⟨F + p * G, (pagesI G n).toNat * G, true, true⟩ (base.large a1 (by omega) a2) (by simp) e rfl ?_ ?_
      · show n ≤ ((pagesI G n).toNat : Int) * G
        rw [Int.toNat_of_nonneg (by omega)]
        omega
      · rw [List.filter_append, List.map_append]
        show (usedP F G pgs ++ [F + (p : Int) * G]).Perm _
        rw [e]
        exact List.perm_append_singleton x _
    · cases e
  · have nn : n ≤ roundI n := by
      rcases Int.lt_or_le 1099511627776 n with l | l
      · have h1 := roundI_mono (show 1099511627776 ≤ n by omega)
        rw [show roundI 1099511627776 = 1099511627776 by decide] at h1
        omega
      · exact roundI_ge l
    rcases t with ⟨p, j, us, a1, a2, a3, a4, a5, e, rfl⟩ | ⟨_, ⟨p, a1, _, e, rfl⟩ | ⟨_, e, _⟩⟩
    · have e := ex _ e
      obtain ⟨k1, k2, k3, _⟩ := wf.blk p _ us a1
      have hm : (⟨F + p * G + j * roundI n, roundI n, false, false⟩ : Rc) ∈ cellsP F G pgs := mem_cellsP.2 ⟨p, _, a1, mem_blk.2 ⟨j, false, a3, rfl⟩⟩
      obtain ⟨b, hb, eb⟩ := List.getElem_of_mem hm
      have hb : (cellsP F G pgs)[b]? = some ⟨F + p * G + j * roundI n, roundI n, false, false⟩ := by rw [List.getElem?_eq_getElem hb, eb]
      have r := base.reuse a1 a3 hb
      refine fin _ ⟨F + p * G + j * roundI n, roundI n, true, false⟩ r (List.mem_of_getElem? (List.getElem?_set_self (List.getElem?_eq_some_iff.1 hb).1)) e rfl nn ?_
      rw [← e]
      exact used_set hb rfl rfl
    · have e := ex _ e
      have s0 := (roundI_in n).1
      have q2 : 2 ≤ G / roundI n := (Int.le_ediv_iff_mul_le (by omega)).2 (by omega)
      obtain ⟨k, hk⟩ : ∃ k, (G / roundI n).toNat = k + 1 := ⟨(G / roundI n).toNat - 1, by omega⟩
      have r := base.fresh a1 s0 (by omega : roundI n ≤ G / 2)
      refine fin _ ⟨F + p * G, roundI n, true, false⟩ r (List.mem_append_right _ ?_) e rfl nn ?_
      · rw [newC, List.mem_map]
        exact ⟨0, List.mem_range.2 (by omega), by simp⟩
      · rw [hk, List.filter_append, List.map_append, newC_used, e]
        exact List.perm_append_singleton x _
    · cases e

/-- What is given back is in use no longer. -/
theorem give_used {F G : Int} {ps ps' : List Bool} {pgs pgs' : List Pg} {n : Int} (g0 : 1 ≤ G) (wf : WF G pgs) (h : GiveA F G ps pgs n true pgs' ps') : (usedP F G pgs).Perm (n :: usedP F G pgs') ∧ WF G pgs' := by
  have base : Rel F G (cellsP F G pgs) pgs := ⟨List.Perm.refl _, wf⟩
  rcases h with ⟨_, e, _⟩ | ⟨p, j, s, us, a1, a2, rfl, _, a4⟩ | ⟨p, c, a1, rfl, _, rfl, _⟩
  · cases e
  · have hm : (⟨F + p * G + j * s, s, true, false⟩ : Rc) ∈ cellsP F G pgs := mem_cellsP.2 ⟨p, _, a1, mem_blk.2 ⟨j, true, a2, rfl⟩⟩
    obtain ⟨b, hb, eb⟩ := List.getElem_of_mem hm
    have hb : (cellsP F G pgs)[b]? = some ⟨F + p * G + j * s, s, true, false⟩ := by rw [List.getElem?_eq_getElem hb, eb]
    have hu := used_unset (d := ⟨F + p * G + j * s, s, false, false⟩) hb rfl rfl
    rcases a4 with ⟨a5, rfl, _⟩ | ⟨a5, rfl, _⟩
    · have r := base.lessen a1 a2 hb a5
      exact ⟨hu.trans ((used_perm r.perm).cons _), r.wf⟩
    · have r := base.empty g0 a1 a2 hb
      obtain ⟨k1, _, k3, _⟩ := wf.blk p s us a1
      refine ⟨hu.trans (List.Perm.cons _ ?_), r.wf⟩
      refine List.Perm.trans ?_ (used_perm r.perm)
      rw [List.filter_filter]
      have hd := perm_turn base.perm a1 a2 hb false
      have same : ((cellsP F G pgs).set b ⟨F + p * G + j * s, s, false, false⟩).filter Rc.used = ((cellsP F G pgs).set b ⟨F + p * G + j * s, s, false, false⟩).filter (fun c => c.used && otherB F G p c) := by
        refine List.filter_congr fun c hc => ?_
        cases hcu : c.used
        · rfl
        · have : otherB F G p c = true := by
            -- all that begins in that page is in use no longer
            obtain ⟨A, B, e, ho⟩ := cellsP_split F G pgs p (List.getElem?_eq_some_iff.1 a1).1
            have hc2 := hd.mem_iff.1 hc
            rw [e] at hc2
            have far : c ∈ A ++ B → otherB F G p c = true := fun hab => by
              obtain ⟨i, x, hi, hx, hcx⟩ := ho c hab
              have := (cell_pages g0 wf hx hcx).1
              simp only [otherB, this, Bool.not_eq_true', decide_eq_false_iff_not]
              omega
            rcases List.mem_append.1 hc2 with q | q
            · exact far (List.mem_append_left _ q)
            · rcases List.mem_append.1 q with q | q
              · obtain ⟨j', u', hu', rfl⟩ := mem_blk.1 q
                obtain rfl : u' = true := hcu
                exact absurd (List.mem_of_getElem? hu') a5
              · exact far (List.mem_append_right _ q)
          rw [this]; rfl
      rw [same]
  · have hm : (⟨F + p * G, c * G, true, true⟩ : Rc) ∈ cellsP F G pgs := mem_cellsP.2 ⟨p, _, a1, by simp [Pg.cells]⟩
    obtain ⟨b, hb, eb⟩ := List.getElem_of_mem hm
    have hb : (cellsP F G pgs)[b]? = some ⟨F + p * G, c * G, true, true⟩ := by rw [List.getElem?_eq_getElem hb, eb]
    have hu := used_unset (d := ⟨F + p * G, c * G, false, true⟩) hb rfl rfl
    have r := base.unlarge (u := false) g0 a1 hb
    refine ⟨hu.trans (List.Perm.cons _ ?_), r.wf⟩
    refine List.Perm.trans ?_ (used_perm r.perm)
    rw [List.filter_filter]
    have same : ((cellsP F G pgs).set b ⟨F + p * G, c * G, false, true⟩).filter Rc.used = ((cellsP F G pgs).set b ⟨F + p * G, c * G, false, true⟩).filter (fun c => c.used && otherB F G p c) := by
      refine List.filter_congr fun d hd => ?_
      cases hcu : d.used
      · rfl
      · have : otherB F G p d = true := by
          rcases List.mem_or_eq_of_mem_set hd with q | rfl
          · obtain ⟨i, x, hx, hcx⟩ := mem_cellsP.1 q
            have e1 := (cell_pages g0 wf hx hcx).1
            by_cases ei : i = p
            · subst ei
              rw [a1] at hx
              cases hx
              exfalso
              -- the only cell of that page is the one whose flag was turned
              obtain rfl : d = ⟨F + i * G, c * G, true, true⟩ := by simpa [Pg.cells] using hcx
              obtain ⟨k, hk, ek⟩ := List.getElem_of_mem hd
              rw [List.getElem_set] at ek
              split at ek
              · cases ek
              · rename_i nk
                have rise := cellsP_rise (F := F) g0 wf
                rw [List.pairwise_map, List.pairwise_iff_getElem] at rise
                have hbl := (List.getElem?_eq_some_iff.1 hb).1
                have eb2 : (cellsP F G pgs)[b] = ⟨F + i * G, c * G, true, true⟩ := by rw [List.getElem?_eq_getElem hbl] at hb; simpa using hb
                rw [List.length_set] at hk
                rcases Nat.lt_or_gt_of_ne nk with l | l
                · have := rise b k hbl hk l
                  rw [ek, eb2] at this
                  exact absurd this (by show ¬ F + (i : Int) * G < F + (i : Int) * G; omega)
                · have := rise k b hk hbl l
                  rw [ek, eb2] at this
                  exact absurd this (by show ¬ F + (i : Int) * G < F + (i : Int) * G; omega)
            · simp only [otherB, e1, Bool.not_eq_true', decide_eq_false_iff_not]
              omega
          · cases hcu
        rw [this]; rfl
    rw [same]

/-- Nothing in use: every page is free. -/
theorem used_none {F G : Int} {pgs : List Pg} (wf : WF G pgs) (h : usedP F G pgs = []) : (∀ x ∈ pgs, x = Pg.free) ∧ cellsP F G pgs = [] := by
  have no : ∀ c ∈ cellsP F G pgs, c.used = false := fun c hc => by
    cases e : c.used
    · rfl
    · have : c.pos ∈ usedP F G pgs := List.mem_map.2 ⟨c, List.mem_filter.2 ⟨hc, e⟩, rfl⟩
      rw [h] at this
      simp at this
  have big : ∀ i c : Nat, pgs[i]? ≠ some (.big c) := fun i c hx => by
    have := no ⟨F + i * G, c * G, true, true⟩ (mem_cellsP.2 ⟨i, _, hx, by simp [Pg.cells]⟩)
    cases this
  have all : ∀ x ∈ pgs, x = Pg.free := fun x hx => by
    obtain ⟨i, hi, e⟩ := List.getElem_of_mem hx
    have hx : pgs[i]? = some x := by rw [List.getElem?_eq_getElem hi, e]
    cases x with
    | free => rfl
    | rest => obtain ⟨k, c, _, _, hb⟩ := wf.rest i hx
              exact absurd hb (big k c)
    | big c => exact absurd hx (big i c)
    | blk s us =>
      obtain ⟨_, _, _, ht⟩ := wf.blk i s us hx
      obtain ⟨j, hj, e⟩ := List.getElem_of_mem ht
      have := no ⟨F + i * G + j * s, s, true, false⟩ (mem_cellsP.2 ⟨i, _, hx, mem_blk.2 ⟨j, true, by rw [List.getElem?_eq_getElem hj, e], rfl⟩⟩)
      cases this
  refine ⟨all, ?_⟩
  rw [List.eq_nil_iff_forall_not_mem]
  intro c hc
  obtain ⟨i, x, hx, hcx⟩ := mem_cellsP.1 hc
  rw [all x (List.mem_of_getElem? hx)] at hcx
  simp [Pg.cells] at hcx
end Go.Proofs.Ytinoeofimajpdaa
