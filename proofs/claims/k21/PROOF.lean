import PyProof.Rows.All
import Wide.All
import OpenK.AllK
import Wide.FinOn
import HandS.ForMost
import HandS.Wide
import HandS.Codes
import HandS.Style
import HandS.NoneIn
import HandS.Exc
import HandS.Comp
import HandS.ExcInit
import HandS.WordsExc
import HandS.IsInst
import HandS.OwnEq
import HandS.MakeKw
import HandS.FStr
import HandS.NamedTupGet
import KE.KFmtOwn
import PyProof.InstEq
import PySem.Challenge.RW_everydoor_k21_cases
import HandS.Defaults
set_option Elab.async false
set_option linter.all false
set_option maxRecDepth 100000
set_option maxHeartbeats 2000000
/-! The heap in two parts: what stands still (I), what is owned and changes (M, Z hidden). -/
namespace Dz
open PySem L2

structure Own0 (H I : Hp) (M : List (Addr × HO)) : Prop where
  imm : Same I H
  cel : ∀ p ∈ M, H p.1 = some p.2 ∧ I p.1 = none
  nd : (M.map (·.1)).Nodup

def Own (H I : Hp) (M : List (Addr × HO)) (Z : List (Addr × HO) → Prop) : Prop := ∃ N, Z N ∧ Own0 H I (M ++ N)
abbrev Z0 : List (Addr × HO) → Prop := fun N => N = []

theorem Own0.ne {H I : Hp} {M : List (Addr × HO)} {p : Addr} (S : Own0 H I M) (hp : H p = none) : (∀ q ∈ M, q.1 ≠ p) ∧ I p = none := by
  refine ⟨fun q hq e => ?_, ?_⟩
  · have h := (S.cel q hq).1
    rw [e, hp] at h
    cases h
  · cases h : I p with
    | none => rfl
    | some o =>
      have := S.imm _ _ h
      rw [hp] at this
      cases this

theorem same_upd {I : Hp} {p : Addr} {o : HO} (h : I p = none) : Same I (upd I p o) := fun b u e => by
  rw [upd_ne (ne_of_none e h)]
  exact e

theorem Own0.alloc {H I : Hp} {M : List (Addr × HO)} {p : Addr} {o : HO} (S : Own0 H I M) (hp : H p = none) : Own0 (upd H p o) (upd I p o) M := by
  obtain ⟨hne, hI⟩ := S.ne hp
  refine ⟨fun b u e => ?_, fun q hq => ?_, S.nd⟩
  · by_cases hb : b = p
    · subst hb
      rw [upd_same] at e ⊢
      exact e
    · rw [upd_ne hb] at e ⊢
      exact S.imm _ _ e
  · obtain ⟨h1, h2⟩ := S.cel q hq
    rw [upd_ne (hne q hq), upd_ne (hne q hq)]
    exact ⟨h1, h2⟩

theorem Own0.allocM {H I : Hp} {M : List (Addr × HO)} {p : Addr} {o : HO} (S : Own0 H I M) (hp : H p = none) : Own0 (upd H p o) I ((p, o) :: M) := by
  obtain ⟨hne, hI⟩ := S.ne hp
  refine ⟨fun b u e => ?_, fun q hq => ?_, ?_⟩
  · rw [upd_ne (ne_of_none e hI)]
    exact S.imm _ _ e
  · rcases List.mem_cons.mp hq with rfl | hq
    · exact ⟨upd_same, hI⟩
    · obtain ⟨h1, h2⟩ := S.cel q hq
      rw [upd_ne (hne q hq)]
      exact ⟨h1, h2⟩
  · rw [List.map_cons, List.nodup_cons]
    refine ⟨fun hm => ?_, S.nd⟩
    obtain ⟨q, hq, e⟩ := List.mem_map.mp hm
    exact hne q hq e

/-- garbage laid -/
theorem Own0.laid {H I : Hp} {M : List (Addr × HO)} {p : Addr} {o : HO} (S : Own0 H I M) (hp : H p = none) : Own0 (upd H p o) I M := by
  obtain ⟨hne, hI⟩ := S.ne hp
  refine ⟨fun b u e => ?_, fun q hq => ?_, S.nd⟩
  · rw [upd_ne (ne_of_none e hI)]
    exact S.imm _ _ e
  · obtain ⟨h1, h2⟩ := S.cel q hq
    rw [upd_ne (hne q hq)]
    exact ⟨h1, h2⟩

theorem Own0.write {H I : Hp} {A B : List (Addr × HO)} {p : Addr} {o o' : HO} (S : Own0 H I (A ++ (p, o) :: B)) : Own0 (upd H p o') I (A ++ (p, o') :: B) := by
  have hI : I p = none := (S.cel (p, o) (by simp)).2
  have nd := S.nd
  rw [List.map_append, List.map_cons] at nd
  have nd2 := List.nodup_append.mp nd
  refine ⟨fun b u e => ?_, fun q hq => ?_, ?_⟩
  · rw [upd_ne (ne_of_none e hI)]
    exact S.imm _ _ e
  · rcases List.mem_append.mp hq with h | h
    · obtain ⟨h1, h2⟩ := S.cel q (List.mem_append_left _ h)
      rw [upd_ne (fun e => nd2.2.2 q.1 (List.mem_map.mpr ⟨q, h, rfl⟩) p (by simp) e)]
      exact ⟨h1, h2⟩
    · rcases List.mem_cons.mp h with rfl | h
      · exact ⟨upd_same, hI⟩
      · obtain ⟨h1, h2⟩ := S.cel q (List.mem_append_right _ (List.mem_cons_of_mem _ h))
        have n1 := (List.nodup_cons.mp nd2.2.1).1
        rw [upd_ne (fun e => n1 (List.mem_map.mpr ⟨q, h, e⟩))]
        exact ⟨h1, h2⟩
  · rw [List.map_append, List.map_cons]
    exact nd

theorem Own0.perm {H I : Hp} {M M' : List (Addr × HO)} (S : Own0 H I M) (h : M.Perm M') : Own0 H I M' :=
  ⟨S.imm, fun p hp => S.cel p (h.mem_iff.mpr hp), (h.map _).nodup_iff.mp S.nd⟩

theorem Own0.freeze {H I : Hp} {A B : List (Addr × HO)} {p : Addr} {o : HO} (S : Own0 H I (A ++ (p, o) :: B)) : Own0 H (upd I p o) (A ++ B) ∧ Same I (upd I p o) := by
  obtain ⟨h1, hI⟩ := S.cel (p, o) (by simp)
  have nd := S.nd
  rw [List.map_append, List.map_cons] at nd
  have nd2 := List.nodup_append.mp nd
  refine ⟨⟨fun b u e => ?_, fun q hq => ?_, ?_⟩, same_upd hI⟩
  · by_cases hb : b = p
    · subst hb
      rw [upd_same] at e
      rw [← e]
      exact h1
    · rw [upd_ne hb] at e
      exact S.imm _ _ e
  · have hq2 : q ∈ A ++ (p, o) :: B := by
      rcases List.mem_append.mp hq with h | h
      · exact List.mem_append_left _ h
      · exact List.mem_append_right _ (List.mem_cons_of_mem _ h)
    obtain ⟨z1, z2⟩ := S.cel q hq2
    refine ⟨z1, ?_⟩
    have hqp : q.1 ≠ p := fun e => by
      rcases List.mem_append.mp hq with h | h
      · exact nd2.2.2 q.1 (List.mem_map.mpr ⟨q, h, rfl⟩) p (by simp) e
      · exact (List.nodup_cons.mp nd2.2.1).1 (List.mem_map.mpr ⟨q, h, e⟩)
    rw [upd_ne hqp]
    exact z2
  · rw [List.map_append]
    refine List.nodup_append.mpr ⟨nd2.1, (List.nodup_cons.mp nd2.2.1).2, fun a ha b hb => nd2.2.2 a ha b (List.mem_cons_of_mem _ hb)⟩

section
variable {H I : Hp} {M : List (Addr × HO)} {Z : List (Addr × HO) → Prop} {p : Addr} {o o' : HO} {G : Prop}
theorem Own.imm (S : Own H I M Z) : Same I H := let ⟨_, _, S⟩ := S; S.imm
/-- a new object that will not change -/
theorem Own.alloc (S : Own H I M Z) (hp : H p = none) : ∃ I', Same I I' ∧ I' p = some o ∧ Own (upd H p o) I' M Z := by
  obtain ⟨N, z, S⟩ := S
  exact ⟨_, same_upd (S.ne hp).2, upd_same, N, z, S.alloc hp⟩
theorem Own.new (S : Own H I M Z) (hp : H p = none) (k : ∀ I', Same I I' → I' p = some o → Own (upd H p o) I' M Z → G) : G := by
  obtain ⟨I', a, b, c⟩ := S.alloc (o := o) hp
  exact k I' a b c
theorem Own.newM (S : Own H I M Z) (hp : H p = none) : Own (upd H p o) I ((p, o) :: M) Z := by
  obtain ⟨N, z, S⟩ := S
  exact ⟨N, z, S.allocM hp⟩
theorem Own.laid (S : Own H I M Z) (hp : H p = none) : Own (upd H p o) I M Z := by
  obtain ⟨N, z, S⟩ := S
  exact ⟨N, z, S.laid hp⟩
theorem Own.get {i : Nat} (S : Own H I M Z) (h : M[i]? = some (p, o)) : H p = some o := by
  obtain ⟨N, z, S⟩ := S
  exact (S.cel (p, o) (List.mem_append_left _ (List.mem_of_getElem? h))).1
theorem split_at {α : Type} {l : List α} {i : Nat} {x : α} (h : l[i]? = some x) : l = l.take i ++ x :: l.drop (i + 1) := by
  have hi : i < l.length := (List.getElem?_eq_some_iff.mp h).1
  have hx : l[i] = x := (List.getElem?_eq_some_iff.mp h).2
  rw [← hx, List.getElem_cons_drop hi, List.take_append_drop]
theorem set_at {α : Type} {l : List α} {i : Nat} {x y : α} (h : l[i]? = some x) : l.set i y = l.take i ++ y :: l.drop (i + 1) := by
  have hi : i < l.length := (List.getElem?_eq_some_iff.mp h).1
  rw [List.set_eq_take_append_cons_drop, if_pos hi]
theorem Own.set (S : Own H I M Z) (i : Nat) (h : M[i]? = some (p, o)) : Own (upd H p o') I (M.set i (p, o')) Z := by
  obtain ⟨N, z, S⟩ := S
  refine ⟨N, z, ?_⟩
  rw [set_at h]
  rw [split_at h] at S
  simp only [List.append_assoc, List.cons_append] at S ⊢
  exact S.write
theorem Own.still (S : Own H I M Z) (i : Nat) (h : M[i]? = some (p, o)) : ∃ I', Same I I' ∧ I' p = some o ∧ Own H I' (M.eraseIdx i) Z := by
  obtain ⟨N, z, S⟩ := S
  rw [split_at h] at S
  simp only [List.append_assoc, List.cons_append] at S
  obtain ⟨a, b⟩ := S.freeze
  refine ⟨_, b, upd_same, N, z, ?_⟩
  rw [List.eraseIdx_eq_take_drop_succ, List.append_assoc]
  exact a
theorem Own0.sub {H I : Hp} {M M' : List (Addr × HO)} (S : Own0 H I M) (h : List.Sublist M' M) : Own0 H I M' :=
  ⟨S.imm, fun p hp => S.cel p (h.subset hp), S.nd.sublist (h.map _)⟩
/-- forget one -/
theorem Own.drop (S : Own H I M Z) (i : Nat) : Own H I (M.eraseIdx i) Z := by
  obtain ⟨N, z, S⟩ := S
  exact ⟨N, z, S.sub (List.Sublist.append (List.eraseIdx_sublist ..) (List.Sublist.refl _))⟩
theorem Own.perm {M' : List (Addr × HO)} (S : Own H I M Z) (h : M.Perm M') : Own H I M' Z := by
  obtain ⟨N, z, S⟩ := S
  exact ⟨N, z, S.perm (h.append_right N)⟩
/-- the object at p is nowhere in I -/
theorem Own.un (S : Own H I M Z) {i : Nat} (h : M[i]? = some (p, o)) : I p = none := by
  obtain ⟨N, z, S⟩ := S
  exact (S.cel (p, o) (List.mem_append_left _ (List.mem_of_getElem? h))).2
theorem Own.down {I' : Hp} (S : Own H I' M Z) (e : Same I I') : Own H I M Z := by
  obtain ⟨N, z, S⟩ := S
  exact ⟨N, z, e.trans S.imm, fun p hp => ⟨(S.cel p hp).1, e.free (S.cel p hp).2⟩, S.nd⟩
theorem Own.of_same (h : Same I H) : Own H I [] Z0 := ⟨[], rfl, h, fun _ q => by simp at q, by simp⟩
/-- all that is owned, hidden -/
theorem Own.hide (S : Own H I M Z) : Own H I [] (fun N => ∃ N', Z N' ∧ N = M ++ N') := by
  obtain ⟨N, z, S⟩ := S
  exact ⟨M ++ N, ⟨N, z, rfl⟩, S⟩
theorem Own.zimp {Z' : List (Addr × HO) → Prop} (S : Own H I M Z) (h : ∀ N, Z N → Z' N) : Own H I M Z' := by
  obtain ⟨N, z, S⟩ := S
  exact ⟨N, h N z, S⟩
end

/-! ### data -/
section
variable {K : PySem.W.Frag} {I I' : Hp}
theorem Same.seqT {a : Addr} {xs : List V} (e : Same I I') (h : SqT K I a xs) : SqT K I' a xs := by
  rcases h with (h | ⟨o, h⟩) | h
  · exact .inl (.inl (e _ _ h))
  · exact .inl (.inr ⟨o, e _ _ h⟩)
  · exact .inr h
mutual
theorem Dp.same (e : Same I I') : ∀ (d : PyData) (v : V), Dp K I v d → Dp K I' v d
  | .none, _, h => by cases h; exact .non
  | .bool _, _, h => by cases h; exact .bl _
  | .int _, _, h => by cases h; exact .int _
  | .str _, _, h => by cases h; exact .str _
  | .list ds, _, h => by
    cases h with
    | lst hs ha => exact .lst (Same.seq e hs) (Dp.sameAll e ds _ ha)
  | .tuple ds, _, h => by
    cases h with
    | tup hs ha => exact .tup (Same.seqT e hs) (Dp.sameAll e ds _ ha)
  | .dict _, _, h => by cases h
theorem Dp.sameAll (e : Same I I') : ∀ (ds : List PyData) (vs : List V), DpAll K I vs ds → DpAll K I' vs ds
  | [], _, h => by cases h; exact .nil
  | d :: ds, _, h => by
    cases h with
    | cons h1 h2 => exact .cons (Dp.same e d _ h1) (Dp.sameAll e ds _ h2)
end
end
end Dz

/-! Steps of a reading, one lemma a construct. -/
namespace Dz
open PySem L2

/-! ### operators under names of their own -/
def rMod : R2 := rI (fun _ j => 0 < j) fun i j => .int (i % j)
def rAddS : R2 := fun x y H Q => ∃ i j, x = .str i ∧ y = .str j ∧ i.length + j.length ≤ sizeLine ∧ Q (.str (i ++ j)) H
def rInSg : R2 := fun x y H Q => ∃ (c : Nat) (z : Str), x = .str ⟨#[c]⟩ ∧ y = .str z ∧ Q (.bl (decide (c ∈ z.cps.toList))) H
def rNotInSg : R2 := fun x y H Q => ∃ (c : Nat) (z : Str), x = .str ⟨#[c]⟩ ∧ y = .str z ∧ Q (.bl (!decide (c ∈ z.cps.toList))) H
def rIsN : R2 := fun x y H Q => y = .non ∧ Q (.bl (decide (x = .non))) H
def rNotN : R2 := fun x y H Q => y = .non ∧ Q (.bl (!decide (x = .non))) H
def cInt : List V → Hp → VK → Prop := fun xs H Q => (∃ i, xs = [.int i] ∧ Q (.int i) H) ∨ ∃ k, xs = [.bl k] ∧ Q (.int (if k then 1 else 0)) H
def cLen (K : PySem.W.Frag) : List V → Hp → VK → Prop := fun xs H Q => ∃ p ys, xs = [.ref p] ∧ (SqL K H p ys ∨ SqT K H p ys) ∧ Q (.int ys.length) H
def cLenS : List V → Hp → VK → Prop := fun xs H Q => ∃ z, xs = [.str z] ∧ z.length ≤ sizeLine ∧ Q (.int z.length) H
def cListOf (K : PySem.W.Frag) : List V → Hp → VK → Prop := fun xs H Q => ∃ p ys, xs = [.ref p] ∧ (SqL K H p ys ∨ SqT K H p ys) ∧ ∀ l, H l = none → Q (.ref l) (upd H l (.lst ys))
def cTupOf (K : PySem.W.Frag) : List V → Hp → VK → Prop := fun xs H Q => ∃ p ys, xs = [.ref p] ∧ ((SqL K H p ys ∧ ∀ l, H l = none → Q (.ref l) (upd H l (.tup ys))) ∨ (SqT K H p ys ∧ Q (.ref p) H))
def cMin2 : List V → Hp → VK → Prop := fun xs H Q => ∃ i j, xs = [.int i, .int j] ∧ Q (.int (if j < i then j else i)) H
def mJoin (K : PySem.W.Frag) : V → List V → Hp → VK → Prop := fun x xs H Q => ∃ a p, ∃ ys : List Str, x = .str a ∧ xs = [.ref p] ∧ (SqL K H p (ys.map V.str) ∨ SqT K H p (ys.map V.str)) ∧
    (ys.map (·.length)).sum + ys.length * a.length ≤ 16777216 ∧ Q (.str (Txt.join a ys)) H
def mUpper : V → List V → Hp → VK → Prop := fun x xs H Q => ∃ a, x = .str a ∧ xs = [] ∧ a.length ≤ 5592405 ∧ Q (.str (Txt.upper a)) H
section
variable {X : Cx}
theorem o_mod : OpR X (binaryOp .Mod) rMod := op_mod
theorem o_addS : OpR X (binaryOp .Add) rAddS := op_add_str
theorem o_inSg : OpR X (compareOp .In) rInSg := op_in_sign
theorem o_notInSg : OpR X (compareOp .NotIn) rNotInSg := op_notIn_sign
theorem o_isN : OpR X (compareOp .Is) rIsN := op_isN
theorem o_notN : OpR X (compareOp .IsNot) rNotN := op_notN
theorem c_int : CallR X (.type "int") cInt := call_int1
theorem c_len : CallR X (.builtin "len") (cLen X.K) := call_len_seq
theorem c_lenS : CallR X (.builtin "len") cLenS := call_len_str
theorem c_listOf : CallR X (.type "list") (cListOf X.K) := call_list_of
theorem c_tupOf : CallR X (.type "tuple") (cTupOf X.K) := call_tuple_of
theorem c_min2 (hc : X.calm = true) : CallR X (.builtin "min") cMin2 := call_min2 hc
theorem m_join : MtR X "str.join" (mJoin X.K) := mt_join
theorem m_upper : MtR X "str.upper" mUpper := mt_upper
end

section
variable {X : Cx} {K : PySem.W.Frag} (hK : X.K = K := by rfl)
include hK
theorem ix_listK : IxR X (rIxL K) := hK ▸ ix_list
theorem ix_tupK : IxR X (rIxT K) := hK ▸ ix_tup
theorem sl_listK : SlR X (rSlL K) := hK ▸ sl_list
theorem in_seqK : OpR X (compareOp .In) (rIn K false) := hK ▸ op_in_seq
theorem notIn_seqK : OpR X (compareOp .NotIn) (rIn K true) := hK ▸ op_notIn_seq
theorem c_lenK : CallR X (.builtin "len") (cLen K) := hK ▸ c_len
theorem c_listOfK : CallR X (.type "list") (cListOf K) := hK ▸ c_listOf
theorem c_tupOfK : CallR X (.type "tuple") (cTupOf K) := hK ▸ c_tupOf
theorem m_joinK : MtR X "str.join" (mJoin K) := hK ▸ m_join
end
theorem eqDK {X : Cx} {K : PySem.W.Frag} (hu : X.A.units + 64 < cLine) (hK : X.K = K := by rfl) : OpR X (compareOp .Eq) (rEqD K) := hK ▸ op_eqD hu
theorem neDK {X : Cx} {K : PySem.W.Frag} (hu : X.A.units + 64 < cLine) (hK : X.K = K := by rfl) : OpR X (compareOp .NotEq) (rNeD K) := hK ▸ op_neD hu
theorem pi_listK {X : Cx} {K : PySem.W.Frag} {tg e : Expr} {te : TE} (he : PE X e te) (hK : X.K = K := by rfl) : PI X tg e (iList K te) := hK ▸ pi_list he
theorem pi_tupK {X : Cx} {K : PySem.W.Frag} {tg e : Expr} {te : TE} (he : PE X e te) (hK : X.K = K := by rfl) : PI X tg e (iTup K te) := hK ▸ pi_tup he
theorem pe_fldK {X : Cx} {K : PySem.W.Frag} {e : Expr} {f : Str} {pos : Pos} {ta : TE} (he : PE X e ta) (hb : attributeBase e f X.env (eval e X.env) = eval e X.env := by rfl) (hK : X.K = K := by rfl) : PE X (.Attribute e f pos) (tFld K ta f) := hK ▸ pe_fld he hb
theorem pe_bmK {X : Cx} {K : PySem.W.Frag} {T id : String} {name : Str} {o e : Expr} {es : List Expr} {to : TE} {t : TA} {r : V → List V → Hp → VK → Prop} {apos cpos : Pos} (pa : PlainAttrs T) (slot : Slot T name id) (hty : typeOf (.builtin id) = pure (.type "method_descriptor")) (hm : MtR X id r) (ho : PE X o to) (ha : PA X (e :: es) t)
    (hbase : attributeBase o name X.env (eval o X.env) = eval o X.env := by rfl)
    (hfew : ((backTo cpos (starEach (e :: es) X.env)).all (fun x => !x.1) && (backToKw cpos (keywordEach [] X.env)).all (fun x => x.1.isSome)
      && decide ((e :: es).length + ([] : List Keyword).length + (if ([] : List Keyword).isEmpty then 0 else 1) < 30)) = true := by rfl)
    (hline : (apos.endLine == cpos.line) = true := by rfl) (hs : starEach (e :: es) X.env = (false, eval e X.env) :: starEach es X.env := by rfl) (hplain : (backTo cpos (starEach es X.env)).any (·.1) = false := by rfl) (hK : X.K = K := by rfl) :
    PE X (.Call (.Attribute o name apos) (e :: es) [] cpos) (tBM K T r to t) := by
  subst hK
  exact pe_bm pa slot hty hm ho ha hbase hfew hline hs hplain
theorem pe_revLK {X : Cx} {K : PySem.W.Frag} {e : Expr} {te : TE} {k : Nat} {p1 p2 p3 pos : Pos} (he : PE X e te) (hK : X.K = K := by rfl) : PE X (.Subscript e (.Slice none none (some (.UnaryOp .USub (.Constant (.int 1) k p1) p2)) p3) pos) (tRevL K te) := hK ▸ pe_revL he
theorem pg_tupK {X : Cx} {K : PySem.W.Frag} {es : List Expr} {k : Nat} {t : TGs} {n : Nat} {pos : Pos} (hc : X.calm = true) (h : PGs X es t) (hn : (assignEach es X.env).length = n := by rfl) (hst : (assignEach es X.env).findIdx? (·.1) = none := by rfl) (hK : X.K = K := by rfl) : PG X (.Tuple es k pos) (gTup K n t) := hK ▸ pg_tup hc h hn hst
theorem pe_bm0K {X : Cx} {K : PySem.W.Frag} {T id : String} {name : Str} {o : Expr} {to : TE} {r : V → List V → Hp → VK → Prop} {apos cpos : Pos} (pa : PlainAttrs T) (slot : Slot T name id) (hty : typeOf (.builtin id) = pure (.type "method_descriptor")) (hm : MtR X id r) (ho : PE X o to)
    (hbase : attributeBase o name X.env (eval o X.env) = eval o X.env := by rfl) (hline : (apos.endLine == cpos.line) = true := by rfl) (hK : X.K = K := by rfl) : PE X (.Call (.Attribute o name apos) [] [] cpos) (tBM0 K T r to) := by
  subst hK
  exact pe_bm0 pa slot hty hm ho hbase hline
/-! ### the combinators -/
section
variable {σ : L2.St} {H : Hp} {Q : VK} {QA : List V → Hp → Prop} {QB : Bool → Hp → Prop} {R : L2.St → Hp → Prop}
variable {ta tb te tc : TE} {tr : TA} {t u : TS} {tt tu : TT} {g : TG} {gs : TGs}
variable {nx bk ct : L2.St → Hp → Prop} {rt : VK} {i : Nat} {v : V} {K : PySem.W.Frag}
theorem x_var (h : σ[i]? = some (some v)) (k : Q v H) : tVar i σ H Q := ⟨v, h, k⟩
theorem x_c (k : Q v H) : tC v σ H Q := k
theorem x_nil (k : QA [] H) : tNil σ H QA := k
theorem x_cons (k : ta σ H fun x H1 => tr σ H1 fun xs H2 => QA (x :: xs) H2) : tCons ta tr σ H QA := k
theorem x_op {r : R2} (k : ta σ H fun x H1 => tb σ H1 fun y H2 => r x y H2 Q) : tOp r ta tb σ H Q := k
theorem x_un {r : V → Hp → VK → Prop} (k : ta σ H fun x H1 => r x H1 Q) : tUn r ta σ H Q := k
theorem x_cb {r : List V → Hp → VK → Prop} (k : tr σ H fun vs H1 => r vs H1 Q) : tCB r tr σ H Q := k
theorem x_bm {T : String} {r : V → List V → Hp → VK → Prop} (k : ta σ H fun x H1 => tyV K T x H1 ∧ tr σ H1 fun xs H2 => r x xs H2 Q) : tBM K T r ta tr σ H Q := k
theorem x_bm0 {T : String} {r : V → List V → Hp → VK → Prop} (k : ta σ H fun x H1 => tyV K T x H1 ∧ r x [] H1 Q) : tBM0 K T r ta σ H Q := k
theorem x_test (k : te σ H fun x H1 => ∃ b, x = .bl b ∧ QB b H1) : tTest te σ H QB := k
theorem x_tB (k : te σ H fun x H1 => ∃ b, x = .bl b ∧ QB b H1) : tB te σ H QB := k
theorem x_and (k : tt σ H fun c H1 => if c = true then tu σ H1 QB else QB false H1) : tAnd tt tu σ H QB := k
theorem x_or (k : tt σ H fun c H1 => if c = true then QB true H1 else tu σ H1 QB) : tOr tt tu σ H QB := k
theorem x_not (k : tt σ H fun c H1 => QB (!c) H1) : tNot tt σ H QB := k
theorem x_notV (k : ta σ H fun x H1 => ∃ c, x = .bl c ∧ Q (.bl (!c)) H1) : tNotV ta σ H Q := k
theorem x_andV (k : ta σ H fun x H1 => ∃ c, x = .bl c ∧ if c = true then tb σ H1 Q else Q (.bl false) H1) : tAndV ta tb σ H Q := k
theorem x_orV (k : ta σ H fun x H1 => ∃ c, x = .bl c ∧ if c = true then Q (.bl true) H1 else tb σ H1 Q) : tOrV ta tb σ H Q := k
theorem x_ifE (k : tt σ H fun c H1 => if c = true then ta σ H1 Q else tb σ H1 Q) : tIf tt ta tb σ H Q := k
theorem x_bl {b : Bool} {P : Bool → Prop} (k : P b) : ∃ c, V.bl b = .bl c ∧ P c := ⟨b, rfl, k⟩
theorem x_seq (k : t ⟨u ⟨nx, rt, bk, ct⟩, rt, bk, ct⟩ σ H) : tSeq t u ⟨nx, rt, bk, ct⟩ σ H := k
/-- a statement by what holds behind it -/
theorem x_cut (J : L2.St → Hp → Prop) (h : t ⟨J, rt, bk, ct⟩ σ H) (k : ∀ σ H, J σ H → u ⟨nx, rt, bk, ct⟩ σ H) : C8.tCut t u ⟨nx, rt, bk, ct⟩ σ H := ⟨J, h, k⟩
theorem x_next (k : nx σ H) : tNext ⟨nx, rt, bk, ct⟩ σ H := k
theorem x_asg (k : te σ H fun x H1 => g x σ H1 nx) : tAsg te g ⟨nx, rt, bk, ct⟩ σ H := k
theorem x_name (k : R (σ.set i (some v)) H) : gName i v σ H R := k
theorem x_ret (k : te σ H rt) : tRet te ⟨nx, rt, bk, ct⟩ σ H := k
theorem x_retN (k : rt .non H) : tRetN ⟨nx, rt, bk, ct⟩ σ H := k
theorem x_drop (k : te σ H fun _ H1 => nx σ H1) : tDrop te ⟨nx, rt, bk, ct⟩ σ H := k
theorem x_ifS (k : tt σ H fun b H1 => if b = true then t ⟨nx, rt, bk, ct⟩ σ H1 else u ⟨nx, rt, bk, ct⟩ σ H1) : tIfS tt t u ⟨nx, rt, bk, ct⟩ σ H := k
theorem x_break (k : bk σ H) : tBreak ⟨nx, rt, bk, ct⟩ σ H := k
theorem x_cont (k : ct σ H) : tCont ⟨nx, rt, bk, ct⟩ σ H := k
theorem x_call {sp : L2.Sp} {dvs : List V} {E : XK} (k : tr σ H fun vs H1 => sp (vs ++ dvs) H1 Q E) : tCall sp dvs E tr σ H Q := k
theorem x_gTup {n : Nat} {a : Addr} {xs : List V} (h : SqT K H a xs) (hl : xs.length = n) (k : gs xs σ H R) : gTup K n gs (.ref a) σ H R := ⟨a, xs, rfl, h, hl, k⟩
theorem x_gCons {r : List V} (k : g v σ H fun σ' H' => gs r σ' H' R) : gCons g gs (v :: r) σ H R := ⟨v, r, rfl, k⟩
theorem x_gNil (k : R σ H) : gNil [] σ H R := ⟨rfl, k⟩
theorem x_gSub {to ti : TE} {ts : TSet} (k : to σ H fun o H1 => ti σ H1 fun i H2 => ts o i v H2 fun H3 => R σ H3) : gSub to ti ts v σ H R := k
theorem x_sl {r : V → Option Int → Option Int → Hp → VK → Prop} {tl th : TO} (k : te σ H fun x H1 => tl σ H1 fun l H2 => th σ H2 fun u H3 => r x l u H3 Q) : tSl r te tl th σ H Q := k
theorem x_noPart {Qo : Option Int → Hp → Prop} (k : Qo none H) : tNoPart σ H Qo := k
theorem x_part {Qo : Option Int → Hp → Prop} (k : te σ H fun x H1 => ∃ i, x = .int i ∧ Qo (some i) H1) : tPart te σ H Qo := k
theorem x_intE {P : Int → Prop} {j : Int} (k : P j) : ∃ i, V.int j = .int i ∧ P i := ⟨j, rfl, k⟩
def TupK (xs : List V) (H : Hp) (Q : VK) : Prop := xs.length ≤ sizeLine ∧ ∀ p, H p = none → Q (.ref p) (upd H p (.tup xs))
def LstK (xs : List V) (H : Hp) (Q : VK) : Prop := xs.length ≤ sizeLine ∧ ∀ p, H p = none → Q (.ref p) (upd H p (.lst xs))
theorem x_tup (k : tr σ H fun xs H1 => TupK xs H1 Q) : tTup tr σ H Q := k
theorem x_lst (k : tr σ H fun xs H1 => LstK xs H1 Q) : tLst tr σ H Q := k
theorem x_iList {tl : TE} {Ri : It → Hp → Prop} (k : tl σ H fun x H1 => ∃ a, x = .ref a ∧ (∃ xs, SqL K H1 a xs) ∧ Ri (Itl K a) H1) : iList K tl σ H Ri := k
theorem x_iTup {tl : TE} {Ri : It → Hp → Prop} (k : tl σ H fun x H1 => ∃ a, x = .ref a ∧ (∃ xs, SqT K H1 a xs) ∧ Ri (Itt K a) H1) : iTup K tl σ H Ri := k

/-! ### operators at values -/
theorem x_rI0 {f : Int → Int → V} {a b : Int} (k : Q (f a b) H) : rI0 f (.int a) (.int b) H Q := ⟨a, b, rfl, rfl, k⟩
theorem x_rI {C : Int → Int → Prop} {f : Int → Int → V} {a b : Int} (c : C a b) (k : Q (f a b) H) : rI C f (.int a) (.int b) H Q := ⟨a, b, rfl, rfl, c, k⟩
theorem x_mod {a b : Int} (c : 0 < b) (k : Q (.int (a % b)) H) : rMod (.int a) (.int b) H Q := ⟨a, b, rfl, rfl, c, k⟩
theorem x_addS {a b : Str} (c : a.length + b.length ≤ sizeLine) (k : Q (.str (a ++ b)) H) : rAddS (.str a) (.str b) H Q := ⟨a, b, rfl, rfl, c, k⟩
theorem x_eqI {a b : Int} (k : Q (.bl (decide (a = b))) H) : rEq (.int a) (.int b) H Q := by
  refine ⟨rfl, ?_⟩
  have e : decide (V.int a = V.int b) = decide (a = b) := decide_eq_decide.mpr ⟨fun h => V.int.inj h, fun h => by rw [h]⟩
  rw [e]
  exact k
theorem x_eqS {a b : Str} (k : Q (.bl (decide (a = b))) H) : rEq (.str a) (.str b) H Q := by
  refine ⟨rfl, ?_⟩
  have e : decide (V.str a = V.str b) = decide (a = b) := decide_eq_decide.mpr ⟨fun h => V.str.inj h, fun h => by rw [h]⟩
  rw [e]
  exact k
theorem x_eqB {a b : Bool} (k : Q (.bl (decide (a = b))) H) : rEq (.bl a) (.bl b) H Q := by
  refine ⟨rfl, ?_⟩
  have e : decide (V.bl a = V.bl b) = decide (a = b) := decide_eq_decide.mpr ⟨fun h => V.bl.inj h, fun h => by rw [h]⟩
  rw [e]
  exact k
theorem x_neI {a b : Int} (k : Q (.bl (!decide (a = b))) H) : rNe (.int a) (.int b) H Q := by
  refine ⟨rfl, ?_⟩
  have e : decide (V.int a = V.int b) = decide (a = b) := decide_eq_decide.mpr ⟨fun h => V.int.inj h, fun h => by rw [h]⟩
  rw [e]
  exact k
theorem x_neS {a b : Str} (k : Q (.bl (!decide (a = b))) H) : rNe (.str a) (.str b) H Q := by
  refine ⟨rfl, ?_⟩
  have e : decide (V.str a = V.str b) = decide (a = b) := decide_eq_decide.mpr ⟨fun h => V.str.inj h, fun h => by rw [h]⟩
  rw [e]
  exact k
theorem x_neB {a b : Bool} (k : Q (.bl (!decide (a = b))) H) : rNe (.bl a) (.bl b) H Q := by
  refine ⟨rfl, ?_⟩
  have e : decide (V.bl a = V.bl b) = decide (a = b) := decide_eq_decide.mpr ⟨fun h => V.bl.inj h, fun h => by rw [h]⟩
  rw [e]
  exact k
theorem x_isN {x : V} (k : Q (.bl (decide (x = .non))) H) : rIsN x .non H Q := ⟨rfl, k⟩
theorem x_notN {x : V} (k : Q (.bl (!decide (x = .non))) H) : rNotN x .non H Q := ⟨rfl, k⟩
theorem x_intI {a : Int} (k : Q (.int a) H) : cInt [.int a] H Q := .inl ⟨a, rfl, k⟩
theorem x_intB {b : Bool} (k : Q (.int (if b then 1 else 0)) H) : cInt [.bl b] H Q := .inr ⟨b, rfl, k⟩
theorem x_lenL {p : Addr} {ys : List V} (h : SqL K H p ys) (k : Q (.int ys.length) H) : cLen K [.ref p] H Q := ⟨p, ys, rfl, .inl h, k⟩
theorem x_lenT {p : Addr} {ys : List V} (h : SqT K H p ys) (k : Q (.int ys.length) H) : cLen K [.ref p] H Q := ⟨p, ys, rfl, .inr h, k⟩
theorem x_lenS {z : Str} (h : z.length ≤ sizeLine) (k : Q (.int z.length) H) : cLenS [.str z] H Q := ⟨z, rfl, h, k⟩
theorem x_ixL {p : Addr} {xs : List V} {j : Int} (h : SqL K H p xs) (a : atI xs j = some v) (k : Q v H) : rIxL K (.ref p) (.int j) H Q := ⟨p, xs, j, v, rfl, rfl, h, a, k⟩
theorem x_ixT {p : Addr} {xs : List V} {j : Int} (h : SqT K H p xs) (a : atI xs j = some v) (k : Q v H) : rIxT K (.ref p) (.int j) H Q := ⟨p, xs, j, v, rfl, rfl, h, a, k⟩
theorem x_ixS {z : Str} {j : Int} {c : Nat} (h : z.length ≤ sizeLine) (a : atI z.cps.toList j = some c) (k : Q (.str ⟨#[c]⟩) H) : rIxS (.str z) (.int j) H Q := ⟨z, j, c, rfl, rfl, h, a, k⟩
theorem x_setL {p : Addr} {xs : List V} {j : Int} {n : Nat} {Qh : Hp → Prop} (h : H p = some (.lst xs)) (a : ixN xs.length j = some n) (k : Qh (upd H p (.lst (xs.set n v)))) : rSetL (.ref p) (.int j) v H Qh := ⟨p, xs, j, n, rfl, rfl, h, a, k⟩
theorem x_popAt {p : Addr} {xs : List V} {j : Int} {n : Nat} {y : V} (h : H p = some (.lst xs)) (h1 : -(2 ^ 63) ≤ j) (h2 : j < 2 ^ 63) (a : seqIndex? j xs.length = some n) (b : xs[n]? = some y) (k : Q y (upd H p (.lst (xs.eraseIdx n)))) :
    rPopAt (.ref p) [.int j] H Q := ⟨p, xs, j, n, y, rfl, rfl, h, h1, h2, a, b, k⟩
theorem x_append {p : Addr} {xs : List V} {y : V} (h : H p = some (.lst xs)) (z : xs.length < sizeLine) (k : Q .non (upd H p (.lst (xs ++ [y])))) : rAppend (.ref p) [y] H Q := ⟨p, xs, y, rfl, rfl, h, z, k⟩
theorem x_slL {p : Addr} {xs : List V} {lo hi : Option Int} (h : SqL K H p xs) (k : ∀ l, H l = none → Q (.ref l) (upd H l (.lst (cutV xs lo hi)))) : rSlL K (.ref p) lo hi H Q := ⟨p, xs, rfl, h, k⟩
theorem x_cat {p q : Addr} {xs ys : List V} (h1 : H p = some (.lst xs)) (h2 : H q = some (.lst ys)) (z : xs.length + ys.length ≤ sizeLine) (k : ∀ l, H l = none → Q (.ref l) (upd H l (.lst (xs ++ ys)))) : rCat (.ref p) (.ref q) H Q :=
  ⟨p, q, xs, ys, rfl, rfl, h1, h2, z, k⟩
theorem x_in {p : Addr} {xs : List V} {x : V} (h : SqL K H p xs) (h1 : flatV x = true) (h2 : xs.all flatV = true) (k : Q (.bl (inV x xs)) H) : rIn K false x (.ref p) H Q := ⟨p, xs, rfl, .inl h, h1, h2, by simpa using k⟩
theorem x_notIn {p : Addr} {xs : List V} {x : V} (h : SqL K H p xs) (h1 : flatV x = true) (h2 : xs.all flatV = true) (k : Q (.bl (!inV x xs)) H) : rIn K true x (.ref p) H Q := ⟨p, xs, rfl, .inl h, h1, h2, by simpa using k⟩
theorem x_inT {p : Addr} {xs : List V} {x : V} (h : SqT K H p xs) (h1 : flatV x = true) (h2 : xs.all flatV = true) (k : Q (.bl (inV x xs)) H) : rIn K false x (.ref p) H Q := ⟨p, xs, rfl, .inr h, h1, h2, by simpa using k⟩
theorem x_notInT {p : Addr} {xs : List V} {x : V} (h : SqT K H p xs) (h1 : flatV x = true) (h2 : xs.all flatV = true) (k : Q (.bl (!inV x xs)) H) : rIn K true x (.ref p) H Q := ⟨p, xs, rfl, .inr h, h1, h2, by simpa using k⟩
theorem x_inSg {c : Nat} {z : Str} (k : Q (.bl (decide (c ∈ z.cps.toList))) H) : rInSg (.str ⟨#[c]⟩) (.str z) H Q := ⟨c, z, rfl, rfl, k⟩
theorem x_notInSg {c : Nat} {z : Str} (k : Q (.bl (!decide (c ∈ z.cps.toList))) H) : rNotInSg (.str ⟨#[c]⟩) (.str z) H Q := ⟨c, z, rfl, rfl, k⟩
theorem x_eqD {a b : V} {d e : PyData} (h1 : Dp K H a d) (h2 : Dp K H b e) (s1 : SeqAt.shaped d = true) (s2 : SeqAt.shaped e = true) (k : Q (.bl (PyData.eqv d e)) H) : rEqD K a b H Q := ⟨d, e, h1, h2, s1, s2, k⟩
theorem x_neD {a b : V} {d e : PyData} (h1 : Dp K H a d) (h2 : Dp K H b e) (s1 : SeqAt.shaped d = true) (s2 : SeqAt.shaped e = true) (k : Q (.bl (!PyData.eqv d e)) H) : rNeD K a b H Q := ⟨d, e, h1, h2, s1, s2, k⟩
theorem x_min2 {a b : Int} (k : Q (.int (if b < a then b else a)) H) : cMin2 [.int a, .int b] H Q := ⟨a, b, rfl, k⟩
theorem x_joinL {a : Str} {p : Addr} {ys : List Str} (h : SqL K H p (ys.map V.str)) (z : (ys.map (·.length)).sum + ys.length * a.length ≤ 16777216) (k : Q (.str (Txt.join a ys)) H) : mJoin K (.str a) [.ref p] H Q := ⟨a, p, ys, rfl, rfl, .inl h, z, k⟩

theorem x_upper {a : Str} (h : a.length ≤ 5592405) (k : Q (.str (Txt.upper a)) H) : mUpper (.str a) [] H Q := ⟨a, rfl, rfl, h, k⟩
theorem x_tyL {B : Prop} {p : Addr} {xs : List V} (h : SqL K H p xs) (k : B) : tyV K "list" (.ref p) H ∧ B := ⟨.inl ⟨rfl, _, h⟩, k⟩
def DgK (x y : V) (H : Hp) (Q : VK) : Prop := ∃ a v, x = .ref a ∧ DGet H a y (some v) ∧ Q v H
def DiK (x y : V) (H : Hp) (Q : Bool → Hp → Prop) : Prop := ∃ a o, x = .ref a ∧ DGet H a y o ∧ Q o.isSome H
def DpK (x y v : V) (H : Hp) (R : Hp → Prop) : Prop := ∃ a H4, x = .ref a ∧ DPut H a y v H4 ∧ R H4
theorem x_tdget {td ty : TE} (k : td σ H fun x H1 => ty σ H1 fun y H2 => DgK x y H2 Q) : tDGet td ty σ H Q := k
theorem x_tdin {td ty : TE} (k : ty σ H fun y H1 => td σ H1 fun x H2 => DiK x y H2 fun b H3 => Q (.bl b) H3) : tDIn ty td σ H Q := k
theorem x_tdnotin {td ty : TE} (k : ty σ H fun y H1 => td σ H1 fun x H2 => DiK x y H2 fun b H3 => Q (.bl (!b)) H3) : tDNotIn ty td σ H Q := k
theorem x_sdput {td ty tv : TE} (k : tv σ H fun v H1 => td σ H1 fun x H2 => ty σ H2 fun y H3 => DpK x y v H3 (nx σ)) : sDPut td ty tv ⟨nx, rt, bk, ct⟩ σ H := k
theorem x_dgS {p : Addr} {kvs : List (Key × V)} {z : Str} (h : H p = some (.dK kvs)) (e : valV kvs (.inr z) = some v) (k : Q v H) : DgK (.ref p) (.str z) H Q := ⟨p, v, rfl, by rw [← e]; exact DGet.k (k := .inr z) h, k⟩
theorem x_diS {p : Addr} {kvs : List (Key × V)} {z : Str} (h : H p = some (.dK kvs)) (k : QB (valV kvs (.inr z)).isSome H) : DiK (.ref p) (.str z) H QB := ⟨p, _, rfl, DGet.k (k := .inr z) h, k⟩
def RvK (K : PySem.W.Frag) (x : V) (H1 : Hp) (Q : VK) : Prop := ∃ a xs, x = .ref a ∧ SqL K H1 a xs ∧ ∀ p, H1 p = none → Q (.ref p) (upd H1 p (.lst xs.reverse))
theorem x_trev (k : te σ H fun x H1 => RvK K x H1 Q) : tRevL K te σ H Q := k
theorem x_tyS {B : Prop} {z : Str} (k : B) : tyV K "str" (.str z) H ∧ B := ⟨rfl, k⟩
/-! ### over the split heap -/
section
variable {I : Hp} {M : List (Addr × HO)} {Z : List (Addr × HO) → Prop} {Qh : Hp → Prop} {Qp : Addr → Hp → Prop} {o : HO}
theorem x_tupI {xs : List V} (S : Own H I M Z) (hl : xs.length ≤ sizeLine) (k : ∀ p I' H', Same I I' → I' p = some (.tup xs) → Own H' I' M Z → Q (.ref p) H') : TupK xs H Q := ⟨hl, fun p hp => S.new hp fun I' a b c => k p I' _ a b c⟩
theorem x_lstI {xs : List V} (S : Own H I M Z) (hl : xs.length ≤ sizeLine) (k : ∀ p I' H', Same I I' → I' p = some (.lst xs) → Own H' I' M Z → Q (.ref p) H') : LstK xs H Q := ⟨hl, fun p hp => S.new hp fun I' a b c => k p I' _ a b c⟩
theorem x_lstM {xs : List V} (S : Own H I M Z) (hl : xs.length ≤ sizeLine) (k : ∀ p H', Own H' I ((p, .lst xs) :: M) Z → Q (.ref p) H') : LstK xs H Q := ⟨hl, fun p hp => k p _ (S.newM hp)⟩
theorem x_slI {p : Addr} {xs : List V} {lo hi : Option Int} (S : Own H I M Z) (h : SqL K H p xs) (k : ∀ q I' H', Same I I' → I' q = some (.lst (cutV xs lo hi)) → Own H' I' M Z → Q (.ref q) H') : rSlL K (.ref p) lo hi H Q := ⟨p, xs, rfl, h, fun q hq => S.new hq fun I' a b c => k q I' _ a b c⟩
theorem x_slM {p : Addr} {xs : List V} {lo hi : Option Int} (S : Own H I M Z) (h : SqL K H p xs) (k : ∀ q H', Own H' I ((q, .lst (cutV xs lo hi)) :: M) Z → Q (.ref q) H') : rSlL K (.ref p) lo hi H Q := ⟨p, xs, rfl, h, fun q hq => k q _ (S.newM hq)⟩
theorem x_catI {p q : Addr} {xs ys : List V} (S : Own H I M Z) (h1 : H p = some (.lst xs)) (h2 : H q = some (.lst ys)) (z : xs.length + ys.length ≤ sizeLine) (k : ∀ r I' H', Same I I' → I' r = some (.lst (xs ++ ys)) → Own H' I' M Z → Q (.ref r) H') : rCat (.ref p) (.ref q) H Q :=
  ⟨p, q, xs, ys, rfl, rfl, h1, h2, z, fun r hr => S.new hr fun I' a b c => k r I' _ a b c⟩
theorem x_catM {p q : Addr} {xs ys : List V} (S : Own H I M Z) (h1 : H p = some (.lst xs)) (h2 : H q = some (.lst ys)) (z : xs.length + ys.length ≤ sizeLine) (k : ∀ r H', Own H' I ((r, .lst (xs ++ ys)) :: M) Z → Q (.ref r) H') : rCat (.ref p) (.ref q) H Q :=
  ⟨p, q, xs, ys, rfl, rfl, h1, h2, z, fun r hr => k r _ (S.newM hr)⟩
theorem x_dnewM (S : Own H I M Z) (k : ∀ p H', Own H' I ((p, .dK []) :: M) Z → Q (.ref p) H') : tDNewK σ H Q := fun p hp => k p _ (S.newM hp)
theorem x_listI {p : Addr} {xs : List V} (S : Own H I M Z) (h : SqL K H p xs ∨ SqT K H p xs) (k : ∀ q I' H', Same I I' → I' q = some (.lst xs) → Own H' I' M Z → Q (.ref q) H') : cListOf K [.ref p] H Q := ⟨p, xs, rfl, h, fun q hq => S.new hq fun I' a b c => k q I' _ a b c⟩
theorem x_listM {p : Addr} {xs : List V} (S : Own H I M Z) (h : SqL K H p xs ∨ SqT K H p xs) (k : ∀ q H', Own H' I ((q, .lst xs) :: M) Z → Q (.ref q) H') : cListOf K [.ref p] H Q := ⟨p, xs, rfl, h, fun q hq => k q _ (S.newM hq)⟩
theorem x_tupOfL {p : Addr} {xs : List V} (S : Own H I M Z) (h : SqL K H p xs) (k : ∀ q I' H', Same I I' → I' q = some (.tup xs) → Own H' I' M Z → Q (.ref q) H') : cTupOf K [.ref p] H Q := ⟨p, xs, rfl, .inl ⟨h, fun q hq => S.new hq fun I' a b c => k q I' _ a b c⟩⟩
theorem x_tupOfT {p : Addr} {xs : List V} (h : SqT K H p xs) (k : Q (.ref p) H) : cTupOf K [.ref p] H Q := ⟨p, xs, rfl, .inr ⟨h, k⟩⟩
theorem x_dpS {R : Hp → Prop} {p : Addr} {kvs : List (Key × V)} {z : Str} (i : Nat) (S : Own H I M Z) (h : M[i]? = some (p, .dK kvs)) (hl : kvs.length < sizeLine) (k : ∀ H', Own H' I (M.set i (p, .dK (putK kvs (.inr z) v))) Z → R H') : DpK (.ref p) (.str z) v H R :=
  ⟨p, _, rfl, DPut.k (k := .inr z) (S.get h) hl, k _ (S.set i h)⟩
theorem x_rvI {p : Addr} {xs : List V} (S : Own H I M Z) (h : SqL K H p xs) (k : ∀ q I' H', Same I I' → I' q = some (.lst xs.reverse) → Own H' I' M Z → Q (.ref q) H') : RvK K (.ref p) H Q := ⟨p, xs, rfl, h, fun q hq => S.new hq fun I' a b c => k q I' _ a b c⟩
theorem x_len {A B : Prop} (h : A) (k : B) : A ∧ B := ⟨h, k⟩
theorem x_setO {p : Addr} {xs : List V} {j : Int} {n : Nat} (i : Nat) (S : Own H I M Z) (h : M[i]? = some (p, .lst xs)) (a : ixN xs.length j = some n) (k : ∀ H', Own H' I (M.set i (p, .lst (xs.set n v))) Z → Qh H') : rSetL (.ref p) (.int j) v H Qh :=
  x_setL (S.get h) a (k _ (S.set i h))
theorem x_popO {p : Addr} {xs : List V} {j : Int} {n : Nat} {y : V} (i : Nat) (S : Own H I M Z) (h : M[i]? = some (p, .lst xs)) (h1 : -(2 ^ 63) ≤ j) (h2 : j < 2 ^ 63) (a : seqIndex? j xs.length = some n) (b : xs[n]? = some y) (k : ∀ H', Own H' I (M.set i (p, .lst (xs.eraseIdx n))) Z → Q y H') :
    rPopAt (.ref p) [.int j] H Q := x_popAt (S.get h) h1 h2 a b (k _ (S.set i h))
theorem x_appO {p : Addr} {xs : List V} {y : V} (i : Nat) (S : Own H I M Z) (h : M[i]? = some (p, .lst xs)) (z : xs.length < sizeLine) (k : ∀ H', Own H' I (M.set i (p, .lst (xs ++ [y]))) Z → Q .non H') : rAppend (.ref p) [y] H Q :=
  x_append (S.get h) z (k _ (S.set i h))
end
/-! ### branches -/
theorem x_if {c : Bool} {A B : Prop} (h1 : c = true → A) (h2 : c = false → B) : if c = true then A else B := by
  cases c with
  | true => rw [if_pos rfl]; exact h1 rfl
  | false => rw [if_neg Bool.false_ne_true]; exact h2 rfl
theorem x_ifD {c A B : Prop} [Decidable c] (h1 : c → A) (h2 : ¬ c → B) : if decide c = true then A else B := x_if (fun h => h1 (of_decide_eq_true h)) fun h => h2 (of_decide_eq_false h)
theorem x_ifN {c : Bool} {A B : Prop} (h : if c = true then B else A) : if (!c) = true then A else B := by
  cases c with
  | true => rw [if_pos rfl] at h; exact iteF h
  | false => rw [if_neg Bool.false_ne_true] at h; exact iteT h
theorem x_ifTrue {A B : Prop} (h : A) : if true = true then A else B := iteT h
theorem x_ifFalse {A B : Prop} (h : B) : if false = true then A else B := iteF h
end
end Dz

/-! Typed data: how a value of a Lean type stands in the heap. -/
namespace Dz
open PySem L2

class Enc (α : Type) where
  enc : α → PyData
  deep : Nat
  ok : α → Bool
  lay : ∀ x : α, ok x = true → (enc x).canLay0 = true
  dep : ∀ x : α, (enc x).depth ≤ deep
class EncEq (α : Type) [Enc α] [DecidableEq α] : Prop where
  eqv : ∀ a b : α, PyData.eqv (Enc.enc a) (Enc.enc b) = decide (a = b)

theorem layAll_map {α : Type} {f : α → PyData} {ok : α → Bool} (h : ∀ x, ok x = true → (f x).canLay0 = true) : ∀ l : List α, l.all ok = true → PyData.canLayAll0 (l.map f) = true
  | [], _ => rfl
  | x :: r, e => by
    rw [List.all_cons, Bool.and_eq_true] at e
    show PyData.canLayAll0 (f x :: r.map f) = true
    simp only [PyData.canLayAll0, h x e.1, layAll_map h r e.2, Bool.and_self]
theorem depAll_map {α : Type} {f : α → PyData} {n : Nat} (h : ∀ x, (f x).depth ≤ n) : ∀ l : List α, PyData.depthAll (l.map f) ≤ n
  | [] => Nat.zero_le _
  | x :: r => by
    show PyData.depthAll (f x :: r.map f) ≤ n
    simp only [PyData.depthAll]
    exact Nat.max_le.mpr ⟨h x, depAll_map h r⟩

instance : Enc Int := ⟨.int, 0, fun _ => true, fun _ _ => rfl, fun _ => Nat.le_refl _⟩
instance : Enc Str := ⟨.str, 0, fun x => PyData.strOk x, fun x h => h, fun _ => Nat.le_refl _⟩
instance : Enc Bool := ⟨.bool, 0, fun _ => true, fun _ _ => rfl, fun _ => Nat.le_refl _⟩
instance {α : Type} [Enc α] : Enc (List α) := ⟨fun l => .list (l.map Enc.enc), Enc.deep α + 1, fun l => l.all Enc.ok, fun l h => layAll_map Enc.lay l h, fun l => Nat.succ_le_succ (depAll_map Enc.dep l)⟩
instance {α β : Type} [Enc α] [Enc β] : Enc (α × β) := ⟨fun p => .tuple [Enc.enc p.1, Enc.enc p.2], max (Enc.deep α) (Enc.deep β) + 1, fun p => Enc.ok p.1 && Enc.ok p.2,
  fun p h => by
    rw [Bool.and_eq_true] at h
    show PyData.canLayAll0 [Enc.enc p.1, Enc.enc p.2] = true
    simp only [PyData.canLayAll0, Enc.lay _ h.1, Enc.lay _ h.2, Bool.and_self],
  fun p => Nat.succ_le_succ (by
    show PyData.depthAll [Enc.enc p.1, Enc.enc p.2] ≤ _
    simp only [PyData.depthAll]
    have h1 := Enc.dep p.1
    have h2 := Enc.dep p.2
    omega)⟩
/-- a tuple of three -/
structure T3 (α β γ : Type) where
  a : α
  b : β
  c : γ
  deriving DecidableEq
instance {α β γ : Type} [Enc α] [Enc β] [Enc γ] : Enc (T3 α β γ) := ⟨fun p => .tuple [Enc.enc p.a, Enc.enc p.b, Enc.enc p.c], max (Enc.deep α) (max (Enc.deep β) (Enc.deep γ)) + 1, fun p => Enc.ok p.a && (Enc.ok p.b && Enc.ok p.c),
  fun p h => by
    rw [Bool.and_eq_true, Bool.and_eq_true] at h
    show PyData.canLayAll0 [Enc.enc p.a, Enc.enc p.b, Enc.enc p.c] = true
    simp only [PyData.canLayAll0, Enc.lay _ h.1, Enc.lay _ h.2.1, Enc.lay _ h.2.2, Bool.and_self],
  fun p => Nat.succ_le_succ (by
    show PyData.depthAll [Enc.enc p.a, Enc.enc p.b, Enc.enc p.c] ≤ _
    simp only [PyData.depthAll]
    have h1 := Enc.dep p.a
    have h2 := Enc.dep p.b
    have h3 := Enc.dep p.c
    omega)⟩
/-- a tuple of any length -/
structure Tu (α : Type) where
  l : List α
  deriving DecidableEq
instance {α : Type} [Enc α] : Enc (Tu α) := ⟨fun l => .tuple (l.l.map Enc.enc), Enc.deep α + 1, fun l => l.l.all Enc.ok, fun l h => layAll_map Enc.lay l.l h, fun l => Nat.succ_le_succ (depAll_map Enc.dep l.l)⟩

instance : EncEq Int := ⟨fun a b => by
  show (a == b) = _
  by_cases h : a = b <;> simp [h]⟩
instance : EncEq Str := ⟨fun a b => by
  show (a == b) = _
  by_cases h : a = b <;> simp [h]⟩
instance : EncEq Bool := ⟨fun a b => by
  show (a == b) = _
  by_cases h : a = b <;> simp [h]⟩
theorem eqvAll_map {α : Type} [Enc α] [DecidableEq α] [EncEq α] : ∀ a b : List α, PyData.eqvAll (a.map Enc.enc) (b.map Enc.enc) = decide (a = b)
  | [], [] => by simp [PyData.eqvAll]
  | x :: xs, y :: ys => by
    simp only [List.map_cons, PyData.eqvAll, EncEq.eqv, eqvAll_map xs ys, List.cons.injEq, Bool.decide_and]
  | [], _ :: _ => by simp [PyData.eqvAll]
  | _ :: _, [] => by simp [PyData.eqvAll]
instance {α : Type} [Enc α] [DecidableEq α] [EncEq α] : EncEq (List α) := ⟨fun a b => by
  show PyData.eqv (.list (a.map Enc.enc)) (.list (b.map Enc.enc)) = _
  rw [PyData.eqv]
  exact eqvAll_map a b⟩
instance {α : Type} [Enc α] [DecidableEq α] [EncEq α] : EncEq (Tu α) := ⟨fun a b => by
  show PyData.eqv (.tuple (a.l.map Enc.enc)) (.tuple (b.l.map Enc.enc)) = _
  rw [PyData.eqv, eqvAll_map]
  cases a; cases b
  simp⟩
instance {α β : Type} [Enc α] [Enc β] [DecidableEq α] [DecidableEq β] [EncEq α] [EncEq β] : EncEq (α × β) := ⟨fun a b => by
  obtain ⟨a1, a2⟩ := a
  obtain ⟨b1, b2⟩ := b
  show PyData.eqv (.tuple [Enc.enc a1, Enc.enc a2]) (.tuple [Enc.enc b1, Enc.enc b2]) = _
  simp [PyData.eqv, PyData.eqvAll, EncEq.eqv]⟩
instance {α β γ : Type} [Enc α] [Enc β] [Enc γ] [DecidableEq α] [DecidableEq β] [DecidableEq γ] [EncEq α] [EncEq β] [EncEq γ] : EncEq (T3 α β γ) := ⟨fun a b => by
  obtain ⟨a1, a2, a3⟩ := a
  obtain ⟨b1, b2, b3⟩ := b
  show PyData.eqv (.tuple [Enc.enc a1, Enc.enc a2, Enc.enc a3]) (.tuple [Enc.enc b1, Enc.enc b2, Enc.enc b3]) = _
  simp [PyData.eqv, PyData.eqvAll, EncEq.eqv]⟩

/-! data whose lists are tracked -/
mutual
inductive Dt (K : PySem.W.Frag) (H : Hp) : V → PyData → Prop
  | non : Dt K H .non .none
  | bl (b : Bool) : Dt K H (.bl b) (.bool b)
  | int (i : Int) : Dt K H (.int i) (.int i)
  | str (x : Str) : Dt K H (.str x) (.str x)
  | lst {a : Addr} {xs : List V} {ds : List PyData} : H a = some (.lst xs) → DtAll K H xs ds → Dt K H (.ref a) (.list ds)
  | tup {a : Addr} {xs : List V} {ds : List PyData} : SqT K H a xs → DtAll K H xs ds → Dt K H (.ref a) (.tuple ds)
inductive DtAll (K : PySem.W.Frag) (H : Hp) : List V → List PyData → Prop
  | nil : DtAll K H [] []
  | cons {v : V} {vs : List V} {d : PyData} {ds : List PyData} : Dt K H v d → DtAll K H vs ds → DtAll K H (v :: vs) (d :: ds)
end
section
variable {K : PySem.W.Frag} {I I' : Hp}
mutual
theorem Dt.same (e : Same I I') : ∀ (d : PyData) (v : V), Dt K I v d → Dt K I' v d
  | .none, _, h => by cases h; exact .non
  | .bool _, _, h => by cases h; exact .bl _
  | .int _, _, h => by cases h; exact .int _
  | .str _, _, h => by cases h; exact .str _
  | .list ds, _, h => by
    cases h with
    | lst hs ha => exact .lst (e _ _ hs) (Dt.sameAll e ds _ ha)
  | .tuple ds, _, h => by
    cases h with
    | tup hs ha => exact .tup (Same.seqT e hs) (Dt.sameAll e ds _ ha)
  | .dict _, _, h => by cases h
theorem Dt.sameAll (e : Same I I') : ∀ (ds : List PyData) (vs : List V), DtAll K I vs ds → DtAll K I' vs ds
  | [], _, h => by cases h; exact .nil
  | d :: ds, _, h => by
    cases h with
    | cons h1 h2 => exact .cons (Dt.same e d _ h1) (Dt.sameAll e ds _ h2)
end
mutual
theorem Dt.dp : ∀ (d : PyData) (v : V), Dt K I v d → Dp K I v d
  | .none, _, h => by cases h; exact .non
  | .bool _, _, h => by cases h; exact .bl _
  | .int _, _, h => by cases h; exact .int _
  | .str _, _, h => by cases h; exact .str _
  | .list ds, _, h => by
    cases h with
    | lst hs ha => exact .lst (SqL.of hs) (Dt.dpAll ds _ ha)
  | .tuple ds, _, h => by
    cases h with
    | tup hs ha => exact .tup hs (Dt.dpAll ds _ ha)
  | .dict _, _, h => by cases h
theorem Dt.dpAll : ∀ (ds : List PyData) (vs : List V), DtAll K I vs ds → DpAll K I vs ds
  | [], _, h => by cases h; exact .nil
  | d :: ds, _, h => by
    cases h with
    | cons h1 h2 => exact .cons (Dt.dp d _ h1) (Dt.dpAll ds _ h2)
end
end
/-- the value v is x, in what stands still -/
def Rp {α : Type} [Enc α] (K : PySem.W.Frag) (I : Hp) (v : V) (x : α) : Prop := Dt K I v (Enc.enc x)
/-- values of a list -/
def Rps {α : Type} [Enc α] (K : PySem.W.Frag) (I : Hp) (vs : List V) (xs : List α) : Prop := DtAll K I vs (xs.map Enc.enc)

section
variable {K : PySem.W.Frag} {I I' H : Hp} {α β γ : Type} [Enc α] [Enc β] [Enc γ]
theorem Rp.same {v : V} {x : α} (e : Same I I') (h : Rp K I v x) : Rp K I' v x := Dt.same e _ _ h
theorem Rps.same {vs : List V} {xs : List α} (e : Same I I') (h : Rps K I vs xs) : Rps K I' vs xs := Dt.sameAll e _ _ h
theorem Rps.nil : Rps K I [] ([] : List α) := DtAll.nil
theorem Rps.cons {v : V} {vs : List V} {x : α} {xs : List α} (h : Rp K I v x) (r : Rps K I vs xs) : Rps K I (v :: vs) (x :: xs) := DtAll.cons h r
theorem Rps.inv {vs : List V} {x : α} {xs : List α} (h : Rps K I vs (x :: xs)) : ∃ v ws, vs = v :: ws ∧ Rp K I v x ∧ Rps K I ws xs := by
  have h : DtAll K I vs (Enc.enc x :: xs.map Enc.enc) := h
  cases h with
  | cons a b => exact ⟨_, _, rfl, a, b⟩
theorem Rps.inv0 {vs : List V} (h : Rps K I vs ([] : List α)) : vs = [] := by
  have h : DtAll K I vs [] := h
  cases h
  rfl
theorem Rps.app : ∀ {xs ys : List α} {vs ws : List V}, Rps K I vs xs → Rps K I ws ys → Rps K I (vs ++ ws) (xs ++ ys)
  | [], _, _, _, h, r => by
    rw [h.inv0]
    exact r
  | _ :: _, _, _, _, h, r => by
    obtain ⟨v, ws, rfl, a, b⟩ := h.inv
    exact Rps.cons a (Rps.app b r)
theorem Rps.len : ∀ {xs : List α} {vs : List V}, Rps K I vs xs → vs.length = xs.length
  | [], _, h => by rw [h.inv0]; rfl
  | _ :: _, _, h => by
    obtain ⟨v, ws, rfl, a, b⟩ := h.inv
    exact congrArg (· + 1) (Rps.len b)
theorem Rps.get : ∀ {xs : List α} {vs : List V} {i : Nat} {v : V}, Rps K I vs xs → vs[i]? = some v → ∃ x, xs[i]? = some x ∧ Rp K I v x
  | [], _, i, v, h, e => by
    rw [h.inv0] at e
    simp at e
  | x :: _, _, 0, v, h, e => by
    obtain ⟨u, ws, rfl, a, b⟩ := h.inv
    simp only [List.getElem?_cons_zero, Option.some.injEq] at e
    subst e
    exact ⟨x, rfl, a⟩
  | _ :: _, _, i + 1, v, h, e => by
    obtain ⟨u, ws, rfl, a, b⟩ := h.inv
    simp only [List.getElem?_cons_succ] at e ⊢
    exact Rps.get b e
theorem Rps.at {vs : List V} {xs : List α} {i : Nat} {x : α} (r : Rps K I vs xs) (e : xs[i]? = some x) : ∃ v, vs[i]? = some v ∧ Rp K I v x := by
  have hi : i < vs.length := by
    rw [r.len]
    exact (List.getElem?_eq_some_iff.mp e).1
  obtain ⟨y, e2, h⟩ := r.get (List.getElem?_eq_getElem hi)
  rw [e] at e2
  cases e2
  exact ⟨_, List.getElem?_eq_getElem hi, h⟩
theorem Rps.take : ∀ (n : Nat) {xs : List α} {vs : List V}, Rps K I vs xs → Rps K I (vs.take n) (xs.take n)
  | 0, _, _, _ => Rps.nil
  | n + 1, [], _, h => by rw [h.inv0]; exact Rps.nil
  | n + 1, _ :: _, _, h => by
    obtain ⟨u, ws, rfl, a, b⟩ := h.inv
    exact Rps.cons a (Rps.take n b)
theorem Rps.drop : ∀ (n : Nat) {xs : List α} {vs : List V}, Rps K I vs xs → Rps K I (vs.drop n) (xs.drop n)
  | 0, _, _, h => h
  | n + 1, [], _, h => by rw [h.inv0]; exact Rps.nil
  | n + 1, _ :: _, _, h => by
    obtain ⟨u, ws, rfl, a, b⟩ := h.inv
    exact Rps.drop n b
theorem Rps.rev : ∀ {xs : List α} {vs : List V}, Rps K I vs xs → Rps K I vs.reverse xs.reverse
  | [], _, h => by rw [h.inv0]; exact Rps.nil
  | _ :: _, _, h => by
    obtain ⟨u, ws, rfl, a, b⟩ := h.inv
    rw [List.reverse_cons, List.reverse_cons]
    exact (Rps.rev b).app (Rps.cons a Rps.nil)
theorem Rps.eraseIdx (n : Nat) {xs : List α} {vs : List V} (r : Rps K I vs xs) : Rps K I (vs.eraseIdx n) (xs.eraseIdx n) := by
  rw [List.eraseIdx_eq_take_drop_succ, List.eraseIdx_eq_take_drop_succ]
  exact (Rps.take n r).app (Rps.drop (n + 1) r)
/-- a list, opened -/
theorem Rp.list {v : V} {xs : List α} (h : Rp K I v xs) : ∃ a vs, v = .ref a ∧ I a = some (.lst vs) ∧ Rps K I vs xs := by
  have h : Dt K I v (.list (xs.map Enc.enc)) := h
  cases h with
  | lst s r => exact ⟨_, _, rfl, s, r⟩
theorem Rp.tu {v : V} {xs : Tu α} (h : Rp K I v xs) : ∃ a vs, v = .ref a ∧ SqT K I a vs ∧ Rps K I vs xs.l := by
  have h : Dt K I v (.tuple (xs.l.map Enc.enc)) := h
  cases h with
  | tup s r => exact ⟨_, _, rfl, s, r⟩
theorem Rp.pair {v : V} {x : α × β} (h : Rp K I v x) : ∃ a v1 v2, v = .ref a ∧ SqT K I a [v1, v2] ∧ Rp K I v1 x.1 ∧ Rp K I v2 x.2 := by
  have h : Dt K I v (.tuple [Enc.enc x.1, Enc.enc x.2]) := h
  cases h with
  | tup s r =>
    cases r with
    | cons r1 r =>
      cases r with
      | cons r2 r =>
        cases r
        exact ⟨_, _, _, rfl, s, r1, r2⟩
theorem Rp.t3 {v : V} {x : T3 α β γ} (h : Rp K I v x) : ∃ a v1 v2 v3, v = .ref a ∧ SqT K I a [v1, v2, v3] ∧ Rp K I v1 x.a ∧ Rp K I v2 x.b ∧ Rp K I v3 x.c := by
  have h : Dt K I v (.tuple [Enc.enc x.a, Enc.enc x.b, Enc.enc x.c]) := h
  cases h with
  | tup s r =>
    cases r with
    | cons r1 r =>
      cases r with
      | cons r2 r =>
        cases r with
        | cons r3 r =>
          cases r
          exact ⟨_, _, _, _, rfl, s, r1, r2, r3⟩
theorem Rp.mkList {a : Addr} {vs : List V} {xs : List α} (s : I a = some (.lst vs)) (r : Rps K I vs xs) : Rp K I (.ref a) xs := Dt.lst s r
theorem Rp.mkTu {a : Addr} {vs : List V} {xs : List α} (s : SqT K I a vs) (r : Rps K I vs xs) : Rp K I (.ref a) (Tu.mk xs) := Dt.tup s r
theorem Rp.mkPair {a : Addr} {v1 v2 : V} {x : α} {y : β} (s : SqT K I a [v1, v2]) (r1 : Rp K I v1 x) (r2 : Rp K I v2 y) : Rp K I (.ref a) (x, y) := Dt.tup s (.cons r1 (.cons r2 .nil))
theorem Rp.mkT3 {a : Addr} {v1 v2 v3 : V} {x : α} {y : β} {z : γ} (s : SqT K I a [v1, v2, v3]) (r1 : Rp K I v1 x) (r2 : Rp K I v2 y) (r3 : Rp K I v3 z) : Rp K I (.ref a) (T3.mk x y z) := Dt.tup s (.cons r1 (.cons r2 (.cons r3 .nil)))
theorem Rp.int {v : V} {x : Int} (h : Rp K I v x) : v = .int x := by
  have h : Dt K I v (.int x) := h
  cases h
  rfl
theorem Rp.str {v : V} {x : Str} (h : Rp K I v x) : v = .str x := by
  have h : Dt K I v (.str x) := h
  cases h
  rfl
theorem Rp.bool {v : V} {x : Bool} (h : Rp K I v x) : v = .bl x := by
  have h : Dt K I v (.bool x) := h
  cases h
  rfl
theorem Rp.ofInt (x : Int) : Rp K I (.int x) x := Dt.int x
theorem Rp.ofStr (x : Str) : Rp K I (.str x) x := Dt.str x
theorem Rp.ofBool (x : Bool) : Rp K I (.bl x) x := Dt.bl x
theorem Rps.ints : ∀ {l : List Int}, Rps K I (l.map V.int) l
  | [] => Rps.nil
  | x :: _ => Rps.cons (Rp.ofInt x) Rps.ints
theorem Rps.strs : ∀ {l : List Str}, Rps K I (l.map V.str) l
  | [] => Rps.nil
  | x :: _ => Rps.cons (Rp.ofStr x) Rps.strs
theorem Rps.bools : ∀ {l : List Bool}, Rps K I (l.map V.bl) l
  | [] => Rps.nil
  | x :: _ => Rps.cons (Rp.ofBool x) Rps.bools
theorem Rps.ofInts : ∀ {l : List Int} {vs : List V}, Rps K I vs l → vs = l.map V.int
  | [], _, h => h.inv0
  | _ :: _, _, h => by
    obtain ⟨u, ws, rfl, a, b⟩ := h.inv
    rw [List.map_cons, Rp.int a, Rps.ofInts b]
theorem Rps.ofStrs : ∀ {l : List Str} {vs : List V}, Rps K I vs l → vs = l.map V.str
  | [], _, h => h.inv0
  | _ :: _, _, h => by
    obtain ⟨u, ws, rfl, a, b⟩ := h.inv
    rw [List.map_cons, Rp.str a, Rps.ofStrs b]
theorem Rps.ofBools : ∀ {l : List Bool} {vs : List V}, Rps K I vs l → vs = l.map V.bl
  | [], _, h => h.inv0
  | _ :: _, _, h => by
    obtain ⟨u, ws, rfl, a, b⟩ := h.inv
    rw [List.map_cons, Rp.bool a, Rps.ofBools b]
theorem Rp.strs {v : V} {l : List Str} (h : Rp K I v l) : ∃ a, v = .ref a ∧ I a = some (.lst (l.map V.str)) := by
  obtain ⟨a, vs, rfl, s, r⟩ := h.list
  rw [r.ofStrs] at s
  exact ⟨a, rfl, s⟩
theorem Rp.ints {v : V} {l : List Int} (h : Rp K I v l) : ∃ a, v = .ref a ∧ I a = some (.lst (l.map V.int)) := by
  obtain ⟨a, vs, rfl, s, r⟩ := h.list
  rw [r.ofInts] at s
  exact ⟨a, rfl, s⟩
theorem shaped_enc (x : α) (o : Enc.ok x = true) (h : Enc.deep α ≤ 64 := by decide) : SeqAt.shaped (Enc.enc x) = true := by
  unfold SeqAt.shaped
  rw [Enc.lay x o, Bool.true_and]
  exact decide_eq_true (Nat.le_trans (Enc.dep x) h)
section
variable [DecidableEq α] [EncEq α] {Q : VK} {a b : V} {x y : α}
theorem x_eqT (h1 : Rp K H a x) (h2 : Rp K H b y) (o1 : Enc.ok x = true) (o2 : Enc.ok y = true) (k : Q (.bl (decide (x = y))) H) (h : Enc.deep α ≤ 64 := by decide) : rEqD K a b H Q :=
  x_eqD (Dt.dp _ _ h1) (Dt.dp _ _ h2) (shaped_enc x o1 h) (shaped_enc y o2 h) (by rw [EncEq.eqv]; exact k)
theorem x_neT (h1 : Rp K H a x) (h2 : Rp K H b y) (o1 : Enc.ok x = true) (o2 : Enc.ok y = true) (k : Q (.bl (!decide (x = y))) H) (h : Enc.deep α ≤ 64 := by decide) : rNeD K a b H Q :=
  x_neD (Dt.dp _ _ h1) (Dt.dp _ _ h2) (shaped_enc x o1 h) (shaped_enc y o2 h) (by rw [EncEq.eqv]; exact k)
end
end

/-! ### items at open places -/
theorem atI_some {α : Type} {l : List α} {i : Int} (h0 : 0 ≤ i) (h1 : i < l.length) : ∃ x, atI l i = some x ∧ l[i.toNat]? = some x := by
  obtain ⟨j, rfl⟩ : ∃ j : Nat, i = j := ⟨i.toNat, by omega⟩
  have hi : j < l.length := by omega
  exact ⟨l[j], atI_nat (List.getElem?_eq_getElem hi), by simpa using List.getElem?_eq_getElem hi⟩
theorem atI_map {α β : Type} {f : α → β} {l : List α} {i : Int} (h0 : 0 ≤ i) (h1 : i < l.length) : ∃ x, atI (l.map f) i = some (f x) ∧ l[i.toNat]? = some x ∧ x ∈ l := by
  obtain ⟨y, e1, e2⟩ := atI_some (l := l.map f) h0 (by simpa using h1)
  rw [List.getElem?_map] at e2
  cases e : l[i.toNat]? with
  | none => rw [e] at e2; cases e2
  | some x =>
    rw [e] at e2
    cases e2
    exact ⟨x, e1, rfl, List.mem_of_getElem? e⟩
end Dz

/-! Loops and comprehensions over the split heap. -/
namespace Dz
open PySem L2

section
variable {σ : L2.St} {H I : Hp} {Q : VK} {K : PySem.W.Frag} {M : List (Addr × HO)} {Z : List (Addr × HO) → Prop}
variable {tl te : TE} {g : TG} {tb : TS} {tt : TT} {vs : List Nat} {tr : TA}
variable {nx bk ct : L2.St → Hp → Prop} {rt : VK}

/-- the rest of a for, once its object is known -/
def ForK (J : It) (g : TG) (tb : TS) (D : Ends) (σ : L2.St) (H : Hp) : Prop := ∃ W : Nat → Nat → L2.St → Hp → Prop, (∃ m, W 0 m σ H) ∧ ∀ i m σ H, W i m σ H →
  (J.stop i H ∧ D.nx σ H) ∨ (J.go i H ∧ ∃ N : L2.St → Hp → Prop, (∀ σ' H', N σ' H' → ∃ m', m' < m ∧ W (i + 1) m' σ' H') ∧ ∀ x H', J.yld i H x H' → g x σ H' fun σ2 H2 => tb { D with nx := N, ct := N, bk := D.nx } σ2 H2)
theorem x_for {wi : TI} {D : Ends} (k : wi σ H fun J H1 => ForK J g tb D σ H1) : tFor wi g tb D σ H := k
def LcK (J : It) (g : TG) (tt : TT) (te : TE) (vs : List Nat) (σ : L2.St) (H1 : Hp) (Q : VK) : Prop := ∀ D, H1 D = none → ∃ W : Nat → Nat → Hp → Prop, (∃ m, W 0 m (upd H1 D (.lst []))) ∧ ∀ i m H, W i m H →
  (J.stop i H ∧ Q (.ref D) H) ∨ (J.go i H ∧ ∃ Nx : Hp → Prop, (∀ H', Nx H' → ∃ m', m' < m ∧ W (i + 1) m' H') ∧ ∀ x H', J.yld i H x H' → g x (wipe σ vs) H' fun σ2 H2 => wipe σ2 vs = wipe σ vs ∧ tt σ2 H2 fun b H3 =>
    if b = true then te σ2 H3 fun y H4 => ∃ acc, H4 D = some (.lst acc) ∧ acc.length < sizeLine ∧ Nx (upd H4 D (.lst (acc ++ [y]))) else Nx H3)
theorem x_lc {wi : TI} (k : wi σ H fun J H1 => LcK J g tt te vs σ H1 Q) : tLc wi g tt te vs σ H Q := k
theorem x_iL {R : It → Hp → Prop} (k : tl σ H fun x H1 => ∃ a, x = .ref a ∧ (∃ xs, SqL K H1 a xs) ∧ R (Itl K a) H1) : iList K tl σ H R := k
theorem x_refL {p : Addr} {xs : List V} {P : Addr → Prop} (h : SqL K H p xs) (k : P p) : ∃ a, V.ref p = .ref a ∧ (∃ xs, SqL K H a xs) ∧ P a := ⟨p, rfl, ⟨xs, h⟩, k⟩
theorem x_refT {p : Addr} {xs : List V} {P : Addr → Prop} (h : SqT K H p xs) (k : P p) : ∃ a, V.ref p = .ref a ∧ (∃ xs, SqT K H a xs) ∧ P a := ⟨p, rfl, ⟨xs, h⟩, k⟩
theorem x_range1 {R : It → Hp → Prop} (k : tr σ H fun vs H1 => ∃ j : Int, vs = [.int j] ∧ -(2 ^ 62) ≤ j ∧ j < 2 ^ 62 ∧ R (Itr 0 j.toNat) H1) : iRng1 tr σ H R := k
theorem x_rng1 {n : Int} {P : Int → Prop} (h0 : 0 ≤ n) (h1 : n ≤ 1000000) (k : P n) : ∃ j : Int, [V.int n] = [.int j] ∧ -(2 ^ 62) ≤ j ∧ j < 2 ^ 62 ∧ P j := ⟨n, rfl, by omega, by omega, k⟩

variable {α β : Type} [Enc α] [Enc β]
/-- behind a turn -/
def Nx (I : Hp) (Z : List (Addr × HO) → Prop) (J : L2.St → Hp → List (Addr × HO) → Prop) : L2.St → Hp → Prop := fun σ H => ∃ I' M', Same I I' ∧ Own H I' M' Z ∧ J σ I' M'
/-- for x in a list of data -/
theorem x_forL {p : Addr} {xs : List V} {l : List α} (S : Own H I M Z) (hx : I p = some (.lst xs)) (rx : Rps K I xs l) (J : Nat → L2.St → Hp → List (Addr × HO) → Prop) (h0 : J 0 σ I M)
    (hs : ∀ i x v σ' I' M' H', l[i]? = some x → Same I I' → Rp K I' v x → Own H' I' M' Z → J i σ' I' M' → g v σ' H' fun σ2 H2 => tb ⟨Nx I Z (J (i + 1)), rt, nx, Nx I Z (J (i + 1))⟩ σ2 H2)
    (hd : ∀ σ' I' M' H', Same I I' → Own H' I' M' Z → J l.length σ' I' M' → nx σ' H') : ForK (Itl K p) g tb ⟨nx, rt, bk, ct⟩ σ H := by
  refine for_list (K := K) (a := p) (xs := xs) (fun i σ' H' => Nx I Z (J i) σ' H') ⟨I, M, Same.refl _, S, h0⟩ (fun i σ' H' _ ⟨I', M', e, S', _⟩ => SqL.of (S'.imm _ _ (e _ _ hx))) ?_ ?_
  · rintro i v σ' H' hv ⟨I', M', e, S', j⟩
    obtain ⟨x, hx', rv⟩ := rx.get hv
    exact hs i x v σ' I' M' H' hx' e (rv.same e) S' j
  · rintro σ' H' ⟨I', M', e, S', j⟩
    rw [rx.len] at j
    exact hd σ' I' M' H' e S' j
/-- for x in a tuple of data -/
theorem x_forT {p : Addr} {xs : List V} {l : List α} (S : Own H I M Z) (hx : SqT K I p xs) (rx : Rps K I xs l) (J : Nat → L2.St → Hp → List (Addr × HO) → Prop) (h0 : J 0 σ I M)
    (hs : ∀ i x v σ' I' M' H', l[i]? = some x → Same I I' → Rp K I' v x → Own H' I' M' Z → J i σ' I' M' → g v σ' H' fun σ2 H2 => tb ⟨Nx I Z (J (i + 1)), rt, nx, Nx I Z (J (i + 1))⟩ σ2 H2)
    (hd : ∀ σ' I' M' H', Same I I' → Own H' I' M' Z → J l.length σ' I' M' → nx σ' H') : ForK (Itt K p) g tb ⟨nx, rt, bk, ct⟩ σ H := by
  refine for_tup (K := K) (a := p) (xs := xs) (fun i σ' H' => Nx I Z (J i) σ' H') ⟨I, M, Same.refl _, S, h0⟩ (fun i σ' H' _ ⟨I', M', e, S', _⟩ => Same.seqT (e.trans S'.imm) hx) ?_ ?_
  · rintro i v σ' H' hv ⟨I', M', e, S', j⟩
    obtain ⟨x, hx', rv⟩ := rx.get hv
    exact hs i x v σ' I' M' H' hx' e (rv.same e) S' j
  · rintro σ' H' ⟨I', M', e, S', j⟩
    rw [rx.len] at j
    exact hd σ' I' M' H' e S' j
/-- for k in range(n) -/
theorem x_forR {n : Nat} (S : Own H I M Z) (J : Nat → L2.St → Hp → List (Addr × HO) → Prop) (h0 : J 0 σ I M)
    (hs : ∀ i σ' I' M' H', i < n → Same I I' → Own H' I' M' Z → J i σ' I' M' → g (.int (0 + i)) σ' H' fun σ2 H2 => tb ⟨Nx I Z (J (i + 1)), rt, nx, Nx I Z (J (i + 1))⟩ σ2 H2)
    (hd : ∀ σ' I' M' H', Same I I' → Own H' I' M' Z → J n σ' I' M' → nx σ' H') : ForK (Itr 0 n) g tb ⟨nx, rt, bk, ct⟩ σ H := by
  refine for_range (lo := 0) (n := n) (fun i σ' H' => Nx I Z (J i) σ' H') ⟨I, M, Same.refl _, S, h0⟩ ?_ ?_
  · rintro i σ' H' hi ⟨I', M', e, S', j⟩
    exact hs i σ' I' M' H' hi e S' j
  · rintro σ' H' ⟨I', M', e, S', j⟩
    exact hd σ' I' M' H' e S' j

/-- what a comprehension has made so far, owned -/
def LcP (I : Hp) (M : List (Addr × HO)) (Z : List (Addr × HO) → Prop) (D : Addr) (J : Nat → List V → Hp → Prop) (i : Nat) (H : Hp) : Prop := ∃ acc, acc.length ≤ i ∧ ∃ I', Same I I' ∧ Own H I' ((D, .lst acc) :: M) Z ∧ J i acc I'
/-- an element is made -/
def LcE (I : Hp) (M : List (Addr × HO)) (Z : List (Addr × HO) → Prop) (D : Addr) (J : Nat → List V → Hp → Prop) (i : Nat) (y : V) (H : Hp) : Prop := ∃ acc, H D = some (.lst acc) ∧ acc.length < sizeLine ∧ LcP I M Z D J i (upd H D (.lst (acc ++ [y])))
theorem x_lcE {D : Addr} {J : Nat → List V → Hp → Prop} {i : Nat} {y : V} {acc : List V} {I4 : Hp} (e : Same I I4) (S : Own H I4 ((D, .lst acc) :: M) Z) (hl : acc.length ≤ i) (hz : i < sizeLine) (j : J (i + 1) (acc ++ [y]) I4) : LcE I M Z D J (i + 1) y H := by
  refine ⟨acc, S.get (i := 0) rfl, Nat.lt_of_le_of_lt hl hz, acc ++ [y], ?_, I4, e, S.set 0 rfl, j⟩
  rw [List.length_append, List.length_singleton]
  omega
theorem x_lcS {D : Addr} {J : Nat → List V → Hp → Prop} {i : Nat} {acc : List V} {I4 : Hp} (e : Same I I4) (S : Own H I4 ((D, .lst acc) :: M) Z) (hl : acc.length ≤ i) (j : J (i + 1) acc I4) : LcP I M Z D J (i + 1) H :=
  ⟨acc, Nat.le_succ_of_le hl, I4, e, S, j⟩
theorem x_lcL {p : Addr} {xs : List V} {l : List α} (S : Own H I M Z) (hx : I p = some (.lst xs)) (rx : Rps K I xs l) (J : Nat → List V → Hp → Prop) (h0 : J 0 [] I)
    (hs : ∀ i x v acc D I' H', l[i]? = some x → Same I I' → Rp K I' v x → Own H' I' ((D, .lst acc) :: M) Z → acc.length ≤ i → J i acc I' → g v (wipe σ vs) H' fun σ2 H2 => wipe σ2 vs = wipe σ vs ∧ tt σ2 H2 fun b H3 =>
      if b = true then te σ2 H3 (LcE I M Z D J (i + 1)) else LcP I M Z D J (i + 1) H3)
    (hd : ∀ D acc I' H', Same I I' → Own H' I' ((D, .lst acc) :: M) Z → J l.length acc I' → Q (.ref D) H') : LcK (Itl K p) g tt te vs σ H Q := by
  intro D hD
  have S0 : Own (upd H D (.lst [])) I ((D, .lst []) :: M) Z := S.newM hD
  refine lc_list (K := K) (a := p) (xs := xs) (LcP I M Z D J) ⟨[], Nat.le_refl _, I, Same.refl _, S0, h0⟩
    (fun i H' _ ⟨acc, _, I', e, S', _⟩ => SqL.of (S'.imm _ _ (e _ _ hx))) ?_ ?_
  · rintro i v H' hv ⟨acc, hl, I', e, S', j⟩
    obtain ⟨x, hx', rv⟩ := rx.get hv
    exact hs i x v acc D I' H' hx' e (rv.same e) S' hl j
  · rintro H' ⟨acc, hl, I', e, S', j⟩
    rw [rx.len] at j
    exact hd D acc I' H' e S' j
/-- over a list that is owned, or any that stays -/
theorem x_lcO {p : Addr} {xs : List V} {l : List α} (S : Own H I M Z) (hx : ∀ D acc I' H', Same I I' → Own H' I' ((D, .lst acc) :: M) Z → SqL K H' p xs) (rx : Rps K I xs l) (J : Nat → List V → Hp → Prop) (h0 : J 0 [] I)
    (hs : ∀ i x v acc D I' H', l[i]? = some x → Same I I' → Rp K I' v x → Own H' I' ((D, .lst acc) :: M) Z → acc.length ≤ i → J i acc I' → g v (wipe σ vs) H' fun σ2 H2 => wipe σ2 vs = wipe σ vs ∧ tt σ2 H2 fun b H3 =>
      if b = true then te σ2 H3 (LcE I M Z D J (i + 1)) else LcP I M Z D J (i + 1) H3)
    (hd : ∀ D acc I' H', Same I I' → Own H' I' ((D, .lst acc) :: M) Z → J l.length acc I' → Q (.ref D) H') : LcK (Itl K p) g tt te vs σ H Q := by
  intro D hD
  have S0 : Own (upd H D (.lst [])) I ((D, .lst []) :: M) Z := S.newM hD
  refine lc_list (K := K) (a := p) (xs := xs) (LcP I M Z D J) ⟨[], Nat.le_refl _, I, Same.refl _, S0, h0⟩
    (fun i H' _ ⟨acc, _, I', e, S', _⟩ => hx D acc I' H' e S') ?_ ?_
  · rintro i v H' hv ⟨acc, hl, I', e, S', j⟩
    obtain ⟨x, hx', rv⟩ := rx.get hv
    exact hs i x v acc D I' H' hx' e (rv.same e) S' hl j
  · rintro H' ⟨acc, hl, I', e, S', j⟩
    rw [rx.len] at j
    exact hd D acc I' H' e S' j
/-- behind a turn of a while -/
def Nw (I : Hp) (Z : List (Addr × HO) → Prop) (J : Nat → L2.St → Hp → List (Addr × HO) → Prop) (m : Nat) : L2.St → Hp → Prop := fun σ H => ∃ m', m' < m ∧ Nx I Z (J m') σ H
def WhK (I : Hp) (Z : List (Addr × HO) → Prop) (J : Nat → L2.St → Hp → List (Addr × HO) → Prop) (m : Nat) (tb : TS) (rt : VK) (nx : L2.St → Hp → Prop) (σ : L2.St) (b : Bool) (H : Hp) : Prop :=
  if b = true then ∃ N : L2.St → Hp → Prop, (∀ σ' H', N σ' H' → ∃ m', m' < m ∧ Nx I Z (J m') σ' H') ∧ tb ⟨N, rt, nx, N⟩ σ H else nx σ H
theorem x_wh {J : Nat → L2.St → Hp → List (Addr × HO) → Prop} {m : Nat} {b : Bool} (h1 : b = true → tb ⟨Nw I Z J m, rt, nx, Nw I Z J m⟩ σ H) (h2 : b = false → nx σ H) : WhK I Z J m tb rt nx σ b H := by
  unfold WhK
  cases b with
  | true => rw [if_pos rfl]; exact ⟨_, fun _ _ h => h, h1 rfl⟩
  | false => rw [if_neg Bool.false_ne_true]; exact h2 rfl
/-- while -/
theorem x_while {c : TT} (J : Nat → L2.St → Hp → List (Addr × HO) → Prop) (S : Own H I M Z) (m0 : Nat) (h0 : J m0 σ I M)
    (hs : ∀ m σ' I' M' H', Same I I' → Own H' I' M' Z → J m σ' I' M' → c σ' H' (WhK I Z J m tb rt nx σ')) : tWhile c tb ⟨nx, rt, bk, ct⟩ σ H := by
  refine ⟨fun m σ H => Nx I Z (J m) σ H, ⟨m0, I, M, Same.refl _, S, h0⟩, ?_⟩
  rintro m σ' H' ⟨I', M', e, S', j⟩
  exact hs m σ' I' M' H' e S' j
theorem x_lcT {p : Addr} {xs : List V} {l : List α} (S : Own H I M Z) (hx : SqT K I p xs) (rx : Rps K I xs l) (J : Nat → List V → Hp → Prop) (h0 : J 0 [] I)
    (hs : ∀ i x v acc D I' H', l[i]? = some x → Same I I' → Rp K I' v x → Own H' I' ((D, .lst acc) :: M) Z → acc.length ≤ i → J i acc I' → g v (wipe σ vs) H' fun σ2 H2 => wipe σ2 vs = wipe σ vs ∧ tt σ2 H2 fun b H3 =>
      if b = true then te σ2 H3 (LcE I M Z D J (i + 1)) else LcP I M Z D J (i + 1) H3)
    (hd : ∀ D acc I' H', Same I I' → Own H' I' ((D, .lst acc) :: M) Z → J l.length acc I' → Q (.ref D) H') : LcK (Itt K p) g tt te vs σ H Q := by
  intro D hD
  have S0 : Own (upd H D (.lst [])) I ((D, .lst []) :: M) Z := S.newM hD
  refine lc_tup (K := K) (a := p) (xs := xs) (LcP I M Z D J) ⟨[], Nat.le_refl _, I, Same.refl _, S0, h0⟩
    (fun i H' _ ⟨acc, _, I', e, S', _⟩ => Same.seqT (e.trans S'.imm) hx) ?_ ?_
  · rintro i v H' hv ⟨acc, hl, I', e, S', j⟩
    obtain ⟨x, hx', rv⟩ := rx.get hv
    exact hs i x v acc D I' H' hx' e (rv.same e) S' hl j
  · rintro H' ⟨acc, hl, I', e, S', j⟩
    rw [rx.len] at j
    exact hd D acc I' H' e S' j
theorem x_lcR {n : Nat} (S : Own H I M Z) (J : Nat → List V → Hp → Prop) (h0 : J 0 [] I)
    (hs : ∀ i acc D I' H', i < n → Same I I' → Own H' I' ((D, .lst acc) :: M) Z → acc.length ≤ i → J i acc I' → g (.int (0 + i)) (wipe σ vs) H' fun σ2 H2 => wipe σ2 vs = wipe σ vs ∧ tt σ2 H2 fun b H3 =>
      if b = true then te σ2 H3 (LcE I M Z D J (i + 1)) else LcP I M Z D J (i + 1) H3)
    (hd : ∀ D acc I' H', Same I I' → Own H' I' ((D, .lst acc) :: M) Z → J n acc I' → Q (.ref D) H') : LcK (Itr 0 n) g tt te vs σ H Q := by
  intro D hD
  have S0 : Own (upd H D (.lst [])) I ((D, .lst []) :: M) Z := S.newM hD
  refine lc_range (lo := 0) (n := n) (LcP I M Z D J) ⟨[], Nat.le_refl _, I, Same.refl _, S0, h0⟩ ?_ ?_
  · rintro i H' hi ⟨acc, hl, I', e, S', j⟩
    exact hs i acc D I' H' hi e S' hl j
  · rintro H' ⟨acc, hl, I', e, S', j⟩
    exact hd D acc I' H' e S' j
theorem x_yes {QB : Bool → Hp → Prop} (k : QB true H) : tYes σ H QB := k
theorem filt_succ {α β : Type} {l : List α} {i : Nat} {x : α} (p : α → Bool) (f : α → β) (h : l[i]? = some x) : ((l.take (i + 1)).filter p).map f = ((l.take i).filter p).map f ++ (if p x = true then [f x] else []) := by
  rw [List.take_add_one, h, Option.toList_some, List.filter_append, List.map_append]
  by_cases q : p x = true
  · rw [if_pos q, List.filter_cons_of_pos q, List.filter_nil, List.map_singleton]
  · rw [if_neg q, List.filter_cons_of_neg q, List.filter_nil, List.map_nil]
/-- [f(x) for x in l if p(x)], the result data: what is asked of a turn -/
def FmE (K : PySem.W.Frag) (I : Hp) (M : List (Addr × HO)) (Z : List (Addr × HO) → Prop) (y : V) (fx : β) (H : Hp) : Prop := ∃ I4, Same I I4 ∧ Own H I4 M Z ∧ Rp K I4 y fx
end
end Dz

/-! Texts as lists of signs; words in lists. -/
namespace Dz
open PySem L2

/-- a text's signs -/
abbrev sg (z : Str) : List Nat := z.cps.toList
def ofL (l : List Nat) : Str := ⟨l.toArray⟩
theorem sg_ofL (l : List Nat) : sg (ofL l) = l := by simp [sg, ofL]
theorem ofL_sg (z : Str) : ofL (sg z) = z := by cases z; simp [sg, ofL]
theorem sg_inj {a b : Str} (h : sg a = sg b) : a = b := by rw [← ofL_sg a, ← ofL_sg b, h]
theorem sg_app (a b : Str) : sg (a ++ b) = sg a ++ sg b := by
  cases a; cases b
  show (_ ++ _ : Array Nat).toList = _
  simp [sg]
theorem ofL_app (a b : List Nat) : ofL a ++ ofL b = ofL (a ++ b) := sg_inj (by rw [sg_app, sg_ofL, sg_ofL, sg_ofL])
theorem len_sg (z : Str) : z.length = (sg z).length := by
  show z.cps.size = _
  simp [sg]
theorem len_app (a b : Str) : (a ++ b).length = a.length + b.length := by rw [len_sg, sg_app, List.length_append, len_sg, len_sg]
theorem sg_one (c : Nat) : sg ⟨#[c]⟩ = [c] := rfl
theorem len_one (c : Nat) : (⟨#[c]⟩ : Str).length = 1 := rfl
theorem eqV_str (a b : Str) : eqV (.str a) (.str b) = decide (a = b) := by
  first
  | rfl
  | (unfold eqV; by_cases h : a = b <;> simp [h])
theorem inV_str (x : Str) (l : List Str) : inV (.str x) (l.map V.str) = decide (x ∈ l) := by
  unfold inV
  rw [List.any_map]
  induction l with
  | nil => simp
  | cons y r ih =>
    rw [List.any_cons, ih]
    simp only [Function.comp_apply, eqV_str]
    by_cases h : y = x
    · subst h; simp
    · have h2 : ¬ x = y := fun e => h e.symm
      simp [h, h2]
theorem flat_strs (l : List Str) : (l.map V.str).all flatV = true := by
  rw [List.all_map]
  exact List.all_eq_true.mpr fun _ _ => rfl
section
variable {K : PySem.W.Frag} {H I : Hp} {Q : VK} {p : Addr} {x : Str} {l : List Str}
theorem x_inStrs (h : SqL K H p (l.map V.str)) (k : Q (.bl (decide (x ∈ l))) H) : rIn K false (.str x) (.ref p) H Q := x_in h rfl (flat_strs l) (by rw [inV_str]; exact k)
theorem x_niStrs (h : SqL K H p (l.map V.str)) (k : Q (.bl (!decide (x ∈ l))) H) : rIn K true (.str x) (.ref p) H Q := x_notIn h rfl (flat_strs l) (by rw [inV_str]; exact k)
theorem x_niStrsT (h : SqT K H p (l.map V.str)) (k : Q (.bl (!decide (x ∈ l))) H) : rIn K true (.str x) (.ref p) H Q := x_notInT h rfl (flat_strs l) (by rw [inV_str]; exact k)
theorem x_inStrsT (h : SqT K H p (l.map V.str)) (k : Q (.bl (decide (x ∈ l))) H) : rIn K false (.str x) (.ref p) H Q := x_inT h rfl (flat_strs l) (by rw [inV_str]; exact k)
/-- z[i] at an open place -/
theorem x_ixSo {z : Str} {j : Int} (hz : z.length ≤ sizeLine) (h0 : 0 ≤ j) (h1 : j < z.length) (k : ∀ c, c ∈ sg z → (sg z)[j.toNat]? = some c → Q (.str ⟨#[c]⟩) H) : rIxS (.str z) (.int j) H Q := by
  obtain ⟨c, e1, e2⟩ := atI_some (l := z.cps.toList) h0 (by rw [len_sg] at h1; exact h1)
  exact x_ixS hz e1 (k c (List.mem_of_getElem? e2) e2)
theorem x_slS {z : Str} {lo hi : Option Int} (hz : z.length ≤ sizeLine) (k : Q (.str (cutS z lo hi)) H) : rSlS (.str z) lo hi H Q := ⟨z, rfl, hz, k⟩
end
theorem sIx_nat (n d k : Nat) : HT.sIx n d (some (k : Int)) = min k n := by
  unfold HT.sIx
  simp only []
  first
  | omega
  | (split <;> omega)
theorem cutS_take (z : Str) (k : Nat) : sg (cutS z none (some (k : Int))) = (sg z).take k := by
  unfold cutS
  rw [sIx_nat]
  simp only [HT.sIx]
  have e : z.length = (sg z).length := len_sg z
  simp only [sg] at *
  rw [List.drop_zero, Nat.sub_zero, e]
  rw [← List.take_take, List.take_length]
theorem cutS_drop (z : Str) (k : Nat) : sg (cutS z (some (k : Int)) none) = (sg z).drop k := by
  unfold cutS
  rw [sIx_nat]
  simp only [HT.sIx]
  have e : z.length = (sg z).length := len_sg z
  simp only [sg] at *
  rw [e]
  by_cases h : k ≤ z.cps.toList.length
  · rw [Nat.min_eq_left h]
    rw [show z.cps.toList.length - k = (z.cps.toList.drop k).length by rw [List.length_drop]]
    rw [List.take_length]
  · rw [Nat.min_eq_right (by omega), Nat.sub_self, List.take_zero]
    rw [List.drop_eq_nil_of_le (by omega)]

/-- for c in a text -/
theorem x_iS {te : TE} {σ : L2.St} {H : Hp} {R : It → Hp → Prop} (k : te σ H fun v H1 => ∃ x, v = .str x ∧ R (Its x) H1) : iStr te σ H R := k
theorem x_strE {z : Str} {P : Str → Prop} (k : P z) : ∃ x, V.str z = .str x ∧ P x := ⟨z, rfl, k⟩
section
variable {σ : L2.St} {H I : Hp} {M : List (Addr × HO)} {Z : List (Addr × HO) → Prop} {g : TG} {tb : TS} {nx bk ct : L2.St → Hp → Prop} {rt : VK}
theorem x_forS {z : Str} (S : Own H I M Z) (J : Nat → L2.St → Hp → List (Addr × HO) → Prop) (h0 : J 0 σ I M)
    (hs : ∀ i c σ' I' M' H', (sg z)[i]? = some c → Same I I' → Own H' I' M' Z → J i σ' I' M' → g (.str ⟨#[c]⟩) σ' H' fun σ2 H2 => tb ⟨Nx I Z (J (i + 1)), rt, nx, Nx I Z (J (i + 1))⟩ σ2 H2)
    (hd : ∀ σ' I' M' H', Same I I' → Own H' I' M' Z → J (sg z).length σ' I' M' → nx σ' H') : ForK (Its z) g tb ⟨nx, rt, bk, ct⟩ σ H := by
  have hl : z.cps.size = (sg z).length := len_sg z
  refine ⟨fun i m σ' H' => m = (sg z).length - i ∧ i ≤ (sg z).length ∧ Nx I Z (J i) σ' H', ⟨_, rfl, Nat.zero_le _, I, M, Same.refl _, S, h0⟩, ?_⟩
  rintro i m σ' H' ⟨rfl, hi, I', M', e, S', j⟩
  by_cases hlt : i < (sg z).length
  · refine .inr ⟨by show i < z.cps.size; omega, Nx I Z (J (i + 1)), fun σ2 H2 n => ⟨_, by omega, rfl, hlt, n⟩, fun x H2 y => ?_⟩
    obtain ⟨rfl, c, ec, rfl⟩ := y
    exact hs i c σ' I' M' H2 (by simpa [sg] using ec) e S' j
  · have : i = (sg z).length := by omega
    subst this
    exact .inl ⟨by show z.cps.size ≤ _; omega, hd σ' I' M' H' e S' j⟩
end
theorem cutV_drop (xs : List V) (k : Nat) : cutV xs (some (k : Int)) none = xs.drop k := by
  unfold cutV
  rw [sIx_nat]
  simp only [HT.sIx]
  by_cases h : k ≤ xs.length
  · rw [Nat.min_eq_left h]
    rw [show xs.length - k = (xs.drop k).length by rw [List.length_drop]]
    rw [List.take_length]
  · rw [Nat.min_eq_right (by omega), Nat.sub_self, List.take_zero]
    rw [List.drop_eq_nil_of_le (by omega)]
theorem cutV_take (xs : List V) (k : Nat) : cutV xs none (some (k : Int)) = xs.take k := by
  unfold cutV
  rw [sIx_nat]
  simp only [HT.sIx]
  rw [List.drop_zero, Nat.sub_zero, ← List.take_take, List.take_length]
theorem eqV_bl (a b : Bool) : eqV (.bl a) (.bl b) = decide (a = b) := by cases a <;> cases b <;> rfl
theorem inV_bl (x : Bool) (l : List Bool) : inV (.bl x) (l.map V.bl) = decide (x ∈ l) := by
  unfold inV
  rw [List.any_map]
  induction l with
  | nil => simp
  | cons y r ih =>
    rw [List.any_cons, ih]
    simp only [Function.comp_apply, eqV_bl]
    by_cases h : y = x
    · subst h; simp
    · have h2 : ¬ x = y := fun e => h e.symm
      simp [h, h2]
theorem flat_bls (l : List Bool) : (l.map V.bl).all flatV = true := by
  rw [List.all_map]
  exact List.all_eq_true.mpr fun _ _ => rfl
section
variable {K : PySem.W.Frag} {H : Hp} {Q : VK} {p : Addr} {x : Bool} {l : List Bool}
theorem x_inBls (h : SqL K H p (l.map V.bl)) (k : Q (.bl (decide (x ∈ l))) H) : rIn K false (.bl x) (.ref p) H Q := x_in h rfl (flat_bls l) (by rw [inV_bl]; exact k)
theorem x_niBls (h : SqL K H p (l.map V.bl)) (k : Q (.bl (!decide (x ∈ l))) H) : rIn K true (.bl x) (.ref p) H Q := x_notIn h rfl (flat_bls l) (by rw [inV_bl]; exact k)
end
end Dz

/-! Steps that the program's own text asks for. -/
namespace Dz
open PySem L2

section
variable {σ : L2.St} {H : Hp} {Q : VK} {ta tb tc : TE} {K : PySem.W.Frag}
theorem x_chain {r r' : R2} (k : ta σ H fun x H1 => tb σ H1 fun y H2 => r x y H2 fun z H3 => ∃ c, z = .bl c ∧ if c = true then tc σ H3 fun w' H4 => r' y w' H4 Q else Q (.bl false) H3) : tChain r r' ta tb tc σ H Q := k
theorem x_all {p : Addr} {bs : List Bool} (h : SqL K H p (bs.map V.bl)) (k : Q (.bl (bs.all id)) H) : rAll K [.ref p] H Q := ⟨p, bs, rfl, h, k⟩
theorem x_any {p : Addr} {bs : List Bool} (h : SqL K H p (bs.map V.bl)) (k : Q (.bl (bs.any id)) H) : rAny K [.ref p] H Q := ⟨p, bs, rfl, h, k⟩
end
section
variable {X : Cx} {K : PySem.W.Frag}
theorem c_all (hc : X.calm = true) (hK : X.K = K := by rfl) : CallR X (.builtin "all") (rAll K) := hK ▸ cr_all hc
theorem c_any (hc : X.calm = true) (hK : X.K = K := by rfl) : CallR X (.builtin "any") (rAny K) := hK ▸ cr_any hc
end
section
variable {σ : L2.St} {H I : Hp} {M : List (Addr × HO)} {Z : List (Addr × HO) → Prop} {g : TG} {tt : TT} {te : TE} {vs : List Nat} {Q : VK}
/-- over a text -/
theorem x_lcStr {z : Str} (S : Own H I M Z) (J : Nat → List V → Hp → Prop) (h0 : J 0 [] I)
    (hs : ∀ i c acc D I' H', (sg z)[i]? = some c → Same I I' → Own H' I' ((D, .lst acc) :: M) Z → acc.length ≤ i → J i acc I' → g (.str ⟨#[c]⟩) (wipe σ vs) H' fun σ2 H2 => wipe σ2 vs = wipe σ vs ∧ tt σ2 H2 fun b H3 =>
      if b = true then te σ2 H3 (LcE I M Z D J (i + 1)) else LcP I M Z D J (i + 1) H3)
    (hd : ∀ D acc I' H', Same I I' → Own H' I' ((D, .lst acc) :: M) Z → J (sg z).length acc I' → Q (.ref D) H') : LcK (Its z) g tt te vs σ H Q := by
  intro D hD
  have hl : z.cps.size = (sg z).length := len_sg z
  have S0 : Own (upd H D (.lst [])) I ((D, .lst []) :: M) Z := S.newM hD
  refine ⟨fun i m H' => m = (sg z).length - i ∧ i ≤ (sg z).length ∧ LcP I M Z D J i H', ⟨_, rfl, Nat.zero_le _, [], Nat.le_refl _, I, Same.refl _, S0, h0⟩, ?_⟩
  rintro i m H' ⟨rfl, hi, acc, hacc, I', e, S', j⟩
  by_cases hlt : i < (sg z).length
  · refine .inr ⟨by show i < z.cps.size; omega, LcP I M Z D J (i + 1), fun H2 n => ⟨_, by omega, rfl, hlt, n⟩, fun x H2 y => ?_⟩
    obtain ⟨rfl, c, ec, rfl⟩ := y
    exact hs i c acc D I' H2 (by simpa [sg] using ec) e S' hacc j
  · have : i = (sg z).length := by omega
    subst this
    exact .inl ⟨by show z.cps.size ≤ _; omega, hd D acc I' H' e S' j⟩
end
end Dz

/-! A comprehension whose element lets an exception out of a call. -/
namespace Dz
open PySem PySem.Spec PyProof.Rows L2

theorem note_same {v : Value} {e1 e2 : Env} (h : e1.frame = e2.frame) : noteFrame v e1 = noteFrame v e2 := by
  unfold noteFrame PySem.frameOf
  rw [h]
/-- an exception that a call let out, noted below, its flight any -/
def Fly (P : Program) (w : World) (outer : List Env) (H : Hp) (s : Shared) (E : XK) (u : Value) (s' : Shared) : Prop :=
  ∃ (a : Addr) (B : Heap) (H' : Hp) (cls : Value) (d : Option Addr) (fl : Value), u = .ref a ∧ B.StaysIn s'.heap ∧ B.get? a = none ∧ s'.heap.FunFrames B outer ∧
    HandSPX.TracedZ s'.heap B a (Zc cls d) fl ∧ HOk P w H' B ∧ UB (frs outer) H H' s.heap B s'.heap ∧ H' a = none ∧ s'.os = s.os ∧ AllBare s'.gens ∧ E cls d H'
def PassAny (X : Cx) (E : XK) : Prop := ∀ (pins : List (Addr × Obj)) (σ : L2.St) (H : Hp) (s : Shared) (u : Value) (s' : Shared), Inv X pins σ H s → Fly X.prog X.w X.stack H s E u s' → X.xe u s'
section
variable {M : Model} {A : Around} {E : Value → Shared → Prop} {s : Shared} {Z : Obj → Prop} {base : Heap} {env : Env} {outer : List Env} {L e : Addr} {fl : Value}
theorem leave_any {Q : Unit → Shared → Prop} (hZ : HandSPX.Steady Z) (hfr : A.frames = some (env :: outer)) (hf : env.frame = some L) (kb : base.StaysIn s.heap) (ke : base.get? e = none)
    (kf : s.heap.FunFrames base (env :: outer)) (kt : HandSPX.TracedZ s.heap base e Z fl)
    (hQ : ∀ h', HandSPX.FlyingZ base outer e Z h' → s.heap.UpToSlots h' → Q () { s with heap := h' }) : wpAny M A (leaving env (.ref e)) Q E s := by
  have kt' := kt
  obtain ⟨oe, vs, T, oT, ts, q1, q2, q3, q4, q5, q6, q7, q8, q9⟩ := kt
  unfold leaving
  cases hfl : fl == rawInt L with
  | true =>
    refine wpAny_bind ?_
    unfold noteFrame
    simp only [hf]
    refine wpAny_bind (wpAny_field q1 q3 q4 ?_)
    rw [if_pos (by simp : (Value.ref T != Value.none) = true)]
    refine wpAny_bind (wpAny_field q7 q8 q9 ?_)
    rw [if_pos hfl]
    refine wpAny_pure (HandSPX.setFlight_noneZ kb kf kt' fun h' a1 a2 a3 a4 => ?_)
    obtain ⟨_, _, a5⟩ := a2
    exact hQ h' ⟨a1, ke, a5, a3⟩ a4
  | false =>
    unfold noteFrame
    simp only [hf]
    refine wpAny_bind (wpAny_bind (wpAny_field q1 q3 q4 ?_))
    rw [if_pos (by simp : (Value.ref T != Value.none) = true)]
    refine wpAny_bind (wpAny_field q7 q8 q9 ?_)
    rw [if_neg (by rw [hfl]; decide)]
    refine wpAny_bind (wpAny_setField q7 q8 (Array.getElem?_eq_some_iff.mp q9).1 ?_)
    generalize hh : s.heap.update T (Obj.mapFields (·.setIfInBounds 3 Value.none)) = h1
    have oth : ∀ b o, b ≠ T → s.heap.get? b = some o → h1.get? b = some o := fun b o hb ho => by
      rw [← hh, Heap.get?_update_other _ _ (Ne.symm hb)]
      exact ho
    have neT : ∀ b o, s.heap.get? b = some o → (∀ vs, o.data ≠ .fields vs) → b ≠ T := fun b o hb hn z => by
      subst z
      rw [q7] at hb
      cases hb
      exact hn ts q8
    refine HandSPX.wpAny_newEntryZ (base := base) (Z := Z) hZ hfr (kf.of_keeps fun b o hb hn => ⟨o, oth b o (neT b o hb hn) hb, rfl⟩) hf (oth e _ (Ne.symm q6) q1)
      (fun b o hb => oth b o (fun z => by subst z; rw [q5] at hb; cases hb) (kb b o hb)) ke q3 (Array.getElem?_eq_some_iff.mp q4).1 q2 fun h' hN => ?_
    obtain ⟨a1, ⟨_, _, a2⟩, a3, a4⟩ := hN
    exact hQ h' ⟨a1, ke, a2, a3⟩ fun b o hb hn => a4 b o (oth b o (neT b o hb hn) hb) hn
end
section
variable {X : Cx} {pins : List (Addr × Obj)} {σ : L2.St} {H H' : Hp} {s : Shared} {B h' h'' : Heap} {E : XK}
theorem ub_up (I : Inv X pins σ H s) (hs : X.stack = X.env :: X.outer) (hf : X.env.frame = some X.env.locals) (hex : X.ex = []) (ub : UB (frs X.stack) H H' s.heap B h') (up : h'.UpToSlots h'') : UB X.fs X.H_0 H' X.s_0.heap B h'' := by
  have hx : ∀ b, b ∉ X.ex := fun b => by rw [hex]; exact List.not_mem_nil
  have offS : ∀ b o, X.s_0.heap.get? b = some o → b ∉ X.fs → b ∉ frs X.stack := fun b o e hb on => by
    rcases List.mem_cons.mp (I.stkSub b on) with z | z
    · have h1 := Heap.lt_size e
      have h2 := I.ok.above
      rw [z] at h1
      exact absurd (Nat.lt_of_lt_of_le h1 h2) (Nat.lt_irrefl _)
    · exact hb z
  have sub : ∀ b, b ∈ X.fs → b ∈ frs X.stack := fun b hb => by
    rw [hs]
    show b ∈ List.filterMap _ _
    rw [List.filterMap_cons, hf]
    exact List.mem_cons_of_mem _ hb
  refine ⟨fun b o e n hb => ub.keep b o (I.base.keep b o e n hb (hx b)) (I.base.free b o e n (hx b)) (offS b o e hb), fun b o e hb => ?_, fun b o e n => ?_, fun b o e hb => ?_,
    fun b xs e => ub.tups b xs (I.base.tups b xs e), fun b o xs e => ub.frzs b o xs (I.base.frzs b o xs e), fun b ps e => ?_⟩
  · obtain ⟨_, o1, e1, hn⟩ := I.ok.funs.mem hb
    rw [e] at e1
    cases e1
    obtain ⟨sl, e2⟩ := I.base.slot b o e (I.ok.frf b hb) hb (hx b)
    obtain ⟨sl2, e3⟩ := ub.slot b _ e2 (sub b hb)
    obtain ⟨sl3, e4⟩ := up b _ e3 hn
    exact ⟨sl3, e4⟩
  · obtain ⟨o1, e1⟩ := I.base.there b o e (hx b)
    exact ub.free b o1 e1 (I.base.free b o e n (hx b))
  · obtain ⟨o1, e1⟩ := I.base.there b o e (hx b)
    exact ub.there b o1 e1 (offS b o e hb)
  · obtain ⟨t1, w1⟩ := I.base.tbls b ps e
    obtain ⟨t2, w2⟩ := ub.tbls b _ w1
    exact ⟨t1 ++ t2, by rw [w2, Array.append_assoc]⟩
/-- a def of CX takes it -/
theorem passAny_of (hs : X.stack = X.env :: X.outer) (hf : X.env.frame = some X.env.locals) (hex : X.ex = []) {E₁ : Value → Shared → Prop}
    (hx : X.xe = fun e s' => wpAny (model X.prog X.w) X.A (leaving X.env e) (fun _ s'' => CX X.prog X.w X.outer X.H_0 X.s_0 E e s'') E₁ s') : PassAny X E := by
  intro pins σ H s u s' I c
  obtain ⟨a, B, H', cls, d, fl, rfl, k1, k2, k3, k4, hok, ub, na, os, ag, hE⟩ := c
  rw [hx]
  have hfr : X.A.frames = some (X.env :: X.outer) := by rw [I.ok.frames, hs]
  rw [hs] at k3
  refine leave_any Zc.steady hfr hf k1 k2 k3 k4 fun h' fl' up => ?_
  exact ⟨a, B, H', cls, d, rfl, fl', hok, ub_up I hs hf hex ub up, na, os.trans I.os, ag, hE⟩
end
/-- frames, over another ground and another heap -/
theorem frames_move {B G h h' : Heap} : ∀ {l : List Env}, h.FunFrames B l → (∀ L, B.get? L = none → G.get? L = none) → (∀ L ∈ frs l, ∀ o, h.get? L = some o → h'.get? L = some o) → h'.FunFrames G l
  | [], _, _, _ => trivial
  | env :: l, h1, hG, hk => by
    obtain ⟨k1, ⟨L, o, k2, k3, k4, k5⟩, k6⟩ := h1
    refine ⟨k1, ⟨L, o, k2, hG L k3, hk L (List.mem_filterMap.mpr ⟨env, List.mem_cons_self, k2⟩) o k4, k5⟩, frames_move k6 hG fun b hb => hk b ?_⟩
    obtain ⟨e, he, q⟩ := List.mem_filterMap.mp hb
    exact List.mem_filterMap.mpr ⟨e, List.mem_cons_of_mem _ he, q⟩
section
variable {X : Cx} {pins pins' : List (Addr × Obj)} {σ σ' : L2.St} {H3 H9 : Hp} {s3 s9 s' : Shared} {E : XK} {scope : Scope} {ce : Env} {fp : List Addr} {C : Addr}
/-- out of the block: the variables are let go -/
theorem block_out (I3 : Inv X pins σ H3 s3) (hfp : ∀ b ∈ fp, FpOk X pins H3 b) (hstk : X.stack = X.env :: X.outer) (hf : X.env.frame = some X.env.locals) (cL : ce.locals = C) (cF : ce.frame = X.env.frame)
    (hC : s3.heap.get? C = none) {xe : Value → Shared → Prop} (I : Inv ((X.blk s3 H3 scope ce fp).wish xe) pins' σ' H9 s9) {u : Value} (c : CX X.prog X.w X.stack H9 s9 E u s') (hx : PassAny X E)
    {use : Option (Value → Sem Unit)} {Qf : Value → Shared → Prop} {acc : Value} :
    notedBy (model X.prog X.w) X.A ce (fun e s' => compPost (model X.prog X.w) X.A X.xe use Qf acc C (.error e) s') u s' := by
  obtain ⟨a, B, H', cls, d, rfl, fly, hok, ub, na, os, ag, hE⟩ := c
  have hfr : X.A.frames = some (X.env :: X.outer) := by rw [I3.ok.frames, hstk]
  show wpAny _ _ (noteFrame (.ref a) ce) _ _ s'
  rw [note_same (e2 := X.env) cF]
  rw [hstk] at fly
  refine HandSPX.looks_onZ Zc.steady hfr hf fly fun h1 held up1 => ?_
  rw [← hstk] at held
  obtain ⟨kb, ke, kf, kt⟩ := held
  -- the block's frame
  obtain ⟨m, hn, _⟩ := I.loc
  have hn : s9.heap.Ns ce.locals m := hn
  rw [cL] at hn
  have H9C : H9 C = none := by
    have z : H9 ce.locals = none := I.free
    rw [cL] at z
    exact z
  have nofs : ∀ b ∈ frs X.stack, ∃ o, s3.heap.get? b = some o ∧ ∀ vs, o.data ≠ .fields vs := fun b hb => (I.ok.funs.mem hb).2
  have Cfs : C ∉ frs X.stack := fun hb => by
    obtain ⟨o, e, _⟩ := nofs C hb
    rw [hC] at e
    cases e
  have nC : ∀ b o, s3.heap.get? b = some o → b ≠ C := fun b o e z => by
    subst z
    rw [hC] at e
    cases e
  have hn1 : h1.Ns C m := by
    obtain ⟨o, es, ep, ho, r⟩ := hn
    exact ⟨o, es, ep, kb C o (ub.keep C o ho H9C Cfs), r⟩
  have H'C : H' C = none := by
    obtain ⟨o, es, ep, ho, r⟩ := hn
    exact ub.free C o ho H9C
  have BC : ∃ o, B.get? C = some o := by
    obtain ⟨o, es, ep, ho, r⟩ := hn
    exact ⟨o, ub.keep C o ho H9C Cfs⟩
  have main : ∃ m, h1.Ns C m ∧ ∀ h', Heap.SameBut C h1 h' → ∀ cenv : Env, cenv.locals = C → wpAny (model X.prog X.w) X.A (PySem.passOn "comprehension.variables-let-go" (.ref a) cenv : Sem Value) (fun _ _ => False) X.xe { s' with heap := h' } := by
    refine ⟨m, hn1, fun hv sb cenv _ => ?_⟩
    obtain ⟨oC, eC⟩ := BC
    -- two grounds
    obtain ⟨G, g1, g2⟩ := L2.restrict hv fun b => (B.get? b).isSome
    obtain ⟨G2, j1, j2⟩ := L2.restrict hv fun b => (B.get? b).isSome || decide (b ∈ frs X.stack)
    have Gn : ∀ b, B.get? b = none → G.get? b = none := fun b e => g2 b (by simp [e])
    have Bv : ∀ b o, b ≠ C → B.get? b = some o → hv.get? b = some o := fun b o hb e => (sb.2 b hb).trans (kb b o e)
    have BG : ∀ b o, b ≠ C → B.get? b = some o → G.get? b = some o := fun b o hb e => (g1 b (by simp [e])).trans (Bv b o hb e)
    have BG2 : ∀ b o, b ≠ C → B.get? b = some o → G2.get? b = some o := fun b o hb e => (j1 b (by simp [e])).trans (Bv b o hb e)
    have Gv : G.StaysIn hv := fun b o e => by
      cases q : (B.get? b).isSome with
      | false => rw [g2 b q] at e; cases e
      | true => rw [← g1 b q]; exact e
    have F2 : ∀ b, b ∈ frs X.stack → G2.get? b = hv.get? b := fun b hb => j1 b (by simp [hb])
    have fv : hv.FunFrames G X.stack := frames_move kf Gn fun L hL o e => (sb.2 L (fun z => Cfs (z ▸ hL))).trans e
    have tv : HandSPX.TracedZ hv G a (Zc cls d) (rawInt X.env.locals) := by
      obtain ⟨oe, vs, T, oT, ts, q1, q2, q3, q4, q5, q6, q7, q8, q9⟩ := kt
      have aC : a ≠ C := fun z => by rw [z, eC] at ke; cases ke
      have TC : T ≠ C := fun z => by rw [z, eC] at q5; cases q5
      exact ⟨oe, vs, T, oT, ts, (sb.2 a aC).trans q1, q2, q3, q4, Gn T q5, q6, (sb.2 T TC).trans q7, q8, q9⟩
    have hokG : HOk X.prog X.w H' G := fun b o q => (hok b o q).stay (fun c v hc r => BG c v (fun z => by
      rcases hc with hc | hc
      · rw [← hc, z, H'C] at q; cases q
      · rw [z, H'C] at hc; cases hc) r) (fun _ r => r) fun _ _ r => r
    have hokG2 : HOk X.prog X.w H' G2 := fun b o q => (hok b o q).stay (fun c v hc r => BG2 c v (fun z => by
      rcases hc with hc | hc
      · rw [← hc, z, H'C] at q; cases q
      · rw [z, H'C] at hc; cases hc) r) (fun _ r => r) fun _ _ r => r
    -- frames of s3, here
    have slotv : ∀ b o, s3.heap.get? b = some o → b ∈ frs X.stack → ∃ sl, hv.get? b = some { o with slots := sl } := fun b o e hb => by
      obtain ⟨o1, e1, hnf⟩ := nofs b hb
      rw [e] at e1
      cases e1
      have hbx : b ∉ fp := fun z => (I.ok.exfs b z) hb
      obtain ⟨sl, e2⟩ := I.base.slot b o e (I3.stkFree b hb) hb hbx
      obtain ⟨sl2, e3⟩ := ub.slot b _ e2 hb
      obtain ⟨sl3, e4⟩ := up1 b _ e3 hnf
      exact ⟨sl3, (sb.2 b (nC b o e)).trans e4⟩
    have J : Inv X pins σ H' { s' with heap := G2 } := by
      refine I3.call' (ch := fp) (os.trans I.os) ⟨fun b o e n hb hbx => ?_, fun b o e n hb hbx => ?_, fun b o e n hbx => ?_, fun b o e hbx => ?_, fun b xs e => ub.tups b xs (I.base.tups b xs e), fun b o xs e => ub.frzs b o xs (I.base.frzs b o xs e), fun b ps e => ?_⟩ hokG2 ag
        fun b hb => ⟨(hfp b hb).2.2.2.1, (hfp b hb).2.1, (hfp b hb).2.2.2.2.1, (hfp b hb).2.2.2.2.2⟩
      · exact BG2 b o (nC b o e) (ub.keep b o (I.base.keep b o e n hb hbx) (I.base.free b o e n hbx) hb)
      · obtain ⟨sl, e2⟩ := slotv b o e hb
        exact ⟨sl, (F2 b hb).trans e2⟩
      · obtain ⟨o1, e1⟩ := I.base.there b o e hbx
        exact ub.free b o1 e1 (I.base.free b o e n hbx)
      · by_cases hb : b ∈ frs X.stack
        · obtain ⟨sl, e2⟩ := slotv b o e hb
          exact ⟨_, (F2 b hb).trans e2⟩
        · obtain ⟨o1, e1⟩ := I.base.there b o e hbx
          obtain ⟨o2, e2⟩ := ub.there b o1 e1 hb
          exact ⟨o2, BG2 b o2 (nC b o e) e2⟩
      · obtain ⟨t1, w1⟩ := I.base.tbls b ps e
        obtain ⟨t2, w2⟩ := ub.tbls b _ w1
        exact ⟨t1 ++ t2, by rw [w2, Array.append_assoc]⟩
    have tv' := tv
    obtain ⟨oe, vs, T, oT, ts, q1, q2, q3, q4, q5, q6, q7, q8, q9⟩ := tv'
    unfold PySem.passOn
    refine wpAny_bind (wpAny_field q1 q3 q4 ?_)
    rw [if_neg (by simp : ¬ ((Value.ref T == Value.none) = true))]
    have fin : wpAny (model X.prog X.w) X.A (setFlight (.ref a) cenv.frame) (fun _ s4 => wpAny (model X.prog X.w) X.A (throw (.ref a) : Sem Value) (fun _ _ => False) X.xe s4) X.xe { s' with heap := hv } := by
      refine HandSPX.setFlight_anyZ (s := { s' with heap := hv }) Gv fv tv fun h2 k1 k2 k3 up2 => wpAny_throw (hx pins σ H' { s' with heap := G2 } (.ref a) { s' with heap := h2 } J ?_)
      refine ⟨a, G, H', cls, d, _, rfl, k1, Gn a ke, k2, k3, hokG, ⟨fun b o e n hb => ?_, fun b o e hb => ?_, fun b o e n => n, fun b o e hb => ?_, fun _ _ e => e, fun _ _ _ e => e, fun b ps e => ⟨#[], by rw [e]; simp⟩⟩, na, rfl, ag, hE⟩
      · have e : G2.get? b = some o := e
        cases q : (B.get? b).isSome with
        | false => rw [j2 b (by simp [q, hb])] at e; cases e
        | true => rw [g1 b q, ← j1 b (by simp [q])]; exact e
      · have e : G2.get? b = some o := e
        rw [F2 b hb] at e
        obtain ⟨_, o1, e1, hnf⟩ := fv.mem hb
        rw [e] at e1
        cases e1
        exact up2 b o e hnf
      · have e : G2.get? b = some o := e
        cases q : (B.get? b).isSome with
        | false => rw [j2 b (by simp [q, hb])] at e; cases e
        | true => exact ⟨o, by rw [g1 b q, ← j1 b (by simp [q])]; exact e⟩
    first
      | exact wpAny_bind (wpAny_pure (wpAny_bind fin))
      | exact wpAny_bind fin
  cases use <;> exact main
end
section
variable {X : Cx} {E : XK}
/-- the block's context, with a wish about exceptions -/
abbrev bx (X : Cx) (s : Shared) (H : Hp) (scope : Scope) (cl : List (Str × Addr)) (C : Addr) (fp : List Addr) (xe : Value → Shared → Prop) : Cx := (X.blk s H scope (compEnvC scope cl C X.env) fp).wish xe
/-- a list comprehension, its element may let an exception out of a call -/
theorem lcx {pins : List (Addr × Obj)} {s : Shared} {σ : L2.St} {H : Hp} {Q : VK} {elt tg iter : Expr} {ifs : List Expr} {scope : Scope} {own : List (Str × Nat)} {pos pos' : Pos} {wi : TI} {g : TG} {tt : TT} {te : TE}
    {use : Option (Value → Sem Unit)} {Qf : Value → Shared → Prop} (hc : X.calm = true) (hN : X.N.Nodup) (hstk : X.stack = X.env :: X.outer) (hf : X.env.frame = some X.env.locals) (hx : PassAny X E)
    (I : Inv X pins σ H s) (hi : PI X tg iter wi) (ok : BlkOk X.N X.env.scope scope own)
    (hg : ∀ s H C cl fp, PG (X.blk s H scope (compEnvC scope cl C X.env) fp) tg g) (ht : ∀ s H C cl fp, PTs (X.blk s H scope (compEnvC scope cl C X.env) fp) ifs tt)
    (he : ∀ s H C cl fp xe, Passes (CX X.prog X.w) (bx X s H scope cl C fp xe) E → PE (bx X s H scope cl C fp xe) elt te) (hs : ∀ x, foldedSetIterable iter X.env x = pure x)
    (h : tLc wi g tt te (own.map Prod.snd) σ H Q)
    (hend : ∀ D C s1 m H1, Inv X pins σ H1 s1 → Q (.ref D) H1 → s1.heap.Ns C m → FpOk X pins H1 C → compPost (model X.prog X.w) X.A X.xe use Qf (.ref D) C (.ok .next) s1) :
    wpAny (model X.prog X.w) X.A (comprehension (.ListComp elt [⟨tg, iter, ifs, 0⟩] scope pos) scope X.env pos' (newList []) false (eval iter X.env) use) Qf X.xe s := by
  have fre : ∀ y ∈ scope.names, y.2 = .free → ∃ c, X.env.cells.lookup y.1 = some c := fun y hy e => (ok.free y hy e).elim (fun k => I.ok.has _ (.inl k)) fun k => I.ok.has _ (.inr k)
  refine wpAny_comprehension_free (use := use) rfl hs (closure_ok fre) ok.kind (fun y hy e => (ok.uniq y hy).trans (by rw [e])) (thn (hi.run pins s σ H _ I h) fun v0 t0 z0 => thn z0 fun v1 t1 z1 => ?_)
  obtain ⟨it, fp, tn, J, G1, rfl, I1, T, b0, b1, run⟩ := z1
  refine wpAny_newObj_type (newEnv_comp ?_) (by decide : (0 : Nat) ≤ sizeLine)
  generalize hd : t1.heap.objs.size = D
  have nD : G1 D = none := I1.hok.fresh (Nat.le_of_eq hd)
  obtain ⟨W, ⟨k0, w0⟩, turn⟩ := run D nD
  generalize ht2 : ({ t1 with heap := t1.heap.push { cls := .type "list", data := .seq ([] : List Value).toArray } } : Shared) = t2
  have up2 : ∀ b o, t1.heap.get? b = some o → t2.heap.get? b = some o := fun b o e => by
    rw [← ht2]
    exact Heap.get?_push_of_some _ e
  have eD : t2.heap.get? D = some { cls := .type "list", data := .seq ([] : List Value).toArray } := by
    rw [← ht2, ← hd]
    exact Heap.get?_push_size _ rfl
  have sz2 : t2.heap.objs.size = t1.heap.objs.size + 1 := by
    rw [← ht2]
    exact Heap.size_push _ _
  have I2 : Inv X pins σ (upd G1 D (.lst [])) t2 := by
    have q := I1.laid (a := D) (o := .lst []) (h' := t2.heap) (t' := t1.toks) up2 (Nat.le_of_eq hd) ⟨Nat.zero_le _, [], 0, .nil, eD⟩
    rw [← ht2] at q ⊢
    exact q
  have fpok : ∀ b ∈ fp, FpOk X pins (upd G1 D (.lst [])) b ∧ b < t2.heap.objs.size := fun b hb => by
    obtain ⟨o, e, _⟩ := T.obj _ _ b0 b hb
    have hlt := Heap.lt_size e
    refine ⟨⟨?_, (b1 b hb).2⟩, by rw [sz2]; exact Nat.lt_succ_of_lt hlt⟩
    rw [upd_ne (Nat.ne_of_lt (hd ▸ hlt))]
    exact (b1 b hb).1
  have b2 : tn 0 t2.heap := T.keep _ _ _ b0 fun b _ o e => up2 b o e
  have I3 := block_start I2 ok hN fpok
  generalize hC : t2.heap.objs.size = C at I3 ⊢
  have cN : t2.heap.get? C = none := by
    cases e : t2.heap.get? C with
    | none => rfl
    | some o => exact absurd (Heap.lt_size e) (by rw [hC]; exact Nat.lt_irrefl _)
  generalize hcl : cellsFrom (C + 1) scope.names (cloFrom X.env.cells scope.names []) = cl at I3 ⊢
  generalize hG2 : upd G1 D (.lst []) = G2 at I2 I3 fpok w0
  have pg := hg t2 G2 C cl fp
  have pt := ht t2 G2 C cl fp
  generalize ht3 : ({ t2 with heap := pushCells (t2.heap.push { cls := .type "dict", data := .dict #[] }) scope.names } : Shared) = t3 at I3 ⊢
  show codeAny _ _ (.compStart _ 0 (.ref it) (.ref D) (compEnvC scope cl C X.env)) (compPost _ _ _ use Qf (.ref D) C) t3
  have b3 : tn 0 t3.heap := T.keep _ _ _ b2 fun b _ o e => by
    rw [← ht3]
    exact pushCells_keeps _ _ _ _ (Heap.get?_push_of_some _ e)
  have stat : ∀ {σ1 : L2.St} {K1 : Hp} {q1 : Shared}, Inv (X.blk t2 G2 scope (compEnvC scope cl C X.env) fp) [] σ1 K1 q1 → (∀ b ∈ fp, K1 b = none) → ∀ b ∈ fp, FpOk (X.blk t2 G2 scope (compEnvC scope cl C X.env) fp) [] K1 b := fun J1 z b hb =>
    ⟨z b hb, (J1.ok.exf b hb).1, J1.ok.exfs b hb, .inl hb, (J1.ok.exf b hb).2, fun p hp => absurd (show p ∈ ([] : List (Addr × Obj)) from hp) List.not_mem_nil⟩
  have pass : Passes (CX X.prog X.w) (bx X t2 G2 scope cl C fp (notedBy (model X.prog X.w) X.A (compEnvC scope cl C X.env) fun e q => compPost (model X.prog X.w) X.A X.xe use Qf (.ref D) C (.error e) q)) E := fun p1 σ1 K1 q1 u q2 J1 c1 =>
    block_out (ce := compEnvC scope cl C X.env) (C := C) I2 (fun b hb => (fpok b hb).1) hstk hf rfl rfl cN J1 c1 hx
  have pe := he t2 G2 C cl fp _ pass
  have loop : codeAny (model X.prog X.w) X.A (.compLoop (.ListComp elt [⟨tg, iter, ifs, 0⟩] scope pos) 0 (.ref it) (.ref D) (compEnvC scope cl C X.env)) (compPost (model X.prog X.w) X.A X.xe use Qf (.ref D) C) t3 := by
    refine compLoop_any (fun n q => ∃ i K1, Inv (X.blk t2 G2 scope (compEnvC scope cl C X.env) fp) [] (wipe σ (own.map Prod.snd)) K1 q ∧ tn i q.heap ∧ (∀ b ∈ fp, K1 b = none) ∧ W i n K1) ?_ k0
      ⟨0, G2, I3, b3, fun b hb => (fpok b hb).1.1, w0⟩
    rintro n q5 ⟨i, K5, J5, b5, n5, w5⟩
    rcases turn i n K5 w5 with ⟨stop, fine⟩ | ⟨go, Nx, hNx, step⟩
    · refine thnF (T.done (X.blk t2 G2 scope (compEnvC scope cl C X.env) fp) rfl rfl rfl hc i [] q5 _ K5 (fun _ _ => False) J5 (stat J5 n5) b5 stop) fun r q6 ⟨er, J6⟩ => ?_
      subst er
      obtain ⟨m, hn, _⟩ := J6.loc
      have J7 : Inv X pins σ K5 q6 := I2.call' (ch := fp) J6.os J6.base J6.hok J6.bare fun b hb => ⟨(fpok b hb).1.2.2.2.1, (fpok b hb).1.2.1, (fpok b hb).1.2.2.2.2.1, (fpok b hb).1.2.2.2.2.2⟩
      exact hend D C q6 m K5 J7 fine hn (I2.fpOk (Nat.le_of_eq hC) J6.free)
    · refine thnF (T.item (X.blk t2 G2 scope (compEnvC scope cl C X.env) fp) rfl rfl rfl hc i [] q5 _ K5 (fun _ _ => False) J5 (stat J5 n5) b5 go) fun r q6 ⟨w1, er, more⟩ => ?_
      subst er
      refine thnF more fun _ q7 ⟨x, K7, J7, r7, y7, b7, n7⟩ => ?_
      have J7p := J7.pinned (stat J7 n7) (T.obj _ _ b7)
      refine thnF (pg.run _ q7 _ K7 x w1 _ J7p r7 (step x K7 y7)) fun _ q8 ⟨σ8, K8, J8, wp8, f8⟩ => ?_
      refine thnF (pt.run _ q8 σ8 K8 _ J8 f8) fun b q9 ⟨K9, J9, f9⟩ => ?_
      have again : ∀ {q : Shared} {K' : Hp}, Inv (X.blk t2 G2 scope (compEnvC scope cl C X.env) fp) ([] ++ pinsAt fp q7.heap) σ8 K' q → Nx K' →
          ∃ m, m < n ∧ ∃ i K1, Inv (X.blk t2 G2 scope (compEnvC scope cl C X.env) fp) [] (wipe σ (own.map Prod.snd)) K1 q ∧ tn i q.heap ∧ (∀ b ∈ fp, K1 b = none) ∧ W i m K1 := fun {q K'} J' nx => by
        obtain ⟨m, hm, w'⟩ := hNx K' nx
        have still : ∀ b ∈ fp, ∀ o, q7.heap.get? b = some o → q.heap.get? b = some o ∧ K' b = none := fun b hb o e => by
          have z := J'.pin (b, o) (List.mem_append_right _ (List.mem_append_right _ (mem_pinsAt hb e)))
          exact ⟨z.1, z.2.1⟩
        have el : (wipe σ (own.map Prod.snd)).length = σ8.length := by rw [← wp8, wipe_length]
        refine ⟨m, hm, i + 1, K', (J'.unpinned (pins := [])).weak el (fun j v e => (wipe_some (wp8 ▸ e)).1), T.keep _ _ _ b7 fun b hb o e => (still b hb o e).1, fun b hb => ?_, w'⟩
        obtain ⟨o, e, _⟩ := T.obj _ _ b7 b hb
        exact (still b hb o e).2
      cases b with
      | false => exact again J9 f9
      | true =>
        refine thn (pe.run _ q9 σ8 K9 _ (J9.wish _) f9) fun z q10 ⟨yv, K10, J10, r10, acc, e10, l10, nx⟩ => ?_
        exact app_ok (X := X.blk t2 G2 scope (compEnvC scope cl C X.env) fp) J10.unwish e10 l10 r10 fun q11 J11 => again J11 nx
  exact codeAny_compStart_list loop (T.self X.A 0 _ _ _ b3 loop)
/-- .. as a value -/
theorem pe_lcx {elt tg iter : Expr} {ifs : List Expr} {scope : Scope} {own : List (Str × Nat)} {pos : Pos} {wi : TI} {g : TG} {tt : TT} {te : TE} (hc : X.calm = true) (hN : X.N.Nodup) (hstk : X.stack = X.env :: X.outer)
    (hf : X.env.frame = some X.env.locals) (hx : PassAny X E) (hi : PI X tg iter wi) (ok : BlkOk X.N X.env.scope scope own)
    (hg : ∀ s H C cl fp, PG (X.blk s H scope (compEnvC scope cl C X.env) fp) tg g) (ht : ∀ s H C cl fp, PTs (X.blk s H scope (compEnvC scope cl C X.env) fp) ifs tt)
    (he : ∀ s H C cl fp xe, Passes (CX X.prog X.w) (bx X s H scope cl C fp xe) E → PE (bx X s H scope cl C fp xe) elt te) (hs : ∀ x, foldedSetIterable iter X.env x = pure x := by intro _; rfl) :
    PE X (.ListComp elt [⟨tg, iter, ifs, 0⟩] scope pos) (tLc wi g tt te (own.map (·.2))) := by
  refine ⟨fun pins s σ H Q I h => ?_⟩
  rw [eval_ListComp]
  refine lcx hc hN hstk hf hx I hi ok hg ht he hs h fun D C s1 m H1 I1 q hn f => ⟨m, hn, fun h2 sb => ?_⟩
  obtain ⟨f0, f1, f2, f3, f4, f5⟩ := f
  have J := I1.turned (h' := h2) (t' := s1.toks) (fun b o hb e => (sb.2 b hb).trans e) f0 f1 f3 f4 f5
  exact ⟨.ref D, H1, J, rfl, q⟩
end
end Dz

/-! Errors of the program: what their making promises, what raising one asks. -/
namespace Dz
open PySem L2
/-- the fields that an error's __init__ sets -/
def spInit (C : Addr) (ns : List Str) : L2.Sp := fun vs H Q _ => ∃ (a : Addr) (xs : List V), vs = .ref a :: xs ∧ xs.length = ns.length ∧ H a = some (exo a C none) ∧
  ∀ d, d ≠ a → H d = none → Q .non (upd (upd H a (exo a C (some d))) d (exd d (ns.zip xs)))
/-- an error's class and the promise of its __init__ -/
structure Er (P : Program) (w : World) (K : PySem.W.Frag) (mg : Str → Option Value) (base : Heap) (x : Str) (C : Addr) (ns : List Str) : Prop where
  T : OexC K C
  ex : ∃ (fI : Addr) (fd : FuncData), PySem.W.findIn K (.ref C) "__init__" = some (some (.ref fI)) ∧ PySem.W.typeIn K (.ref fI) = some (.type "function") ∧ FnOk P w K mg base CX0 1 fI fd ("self" :: ns) (spInit C ns) ∧ Binds K fd ("self" :: ns) []
  m : mg x = some (.ref C)
section
variable {σ : L2.St} {H : Hp} {QX : XK} {C : Addr} {ns : List Str} {tr : TA} {dvs : List V}
/-- an error's value is made: its fields stand at d -/
def MkK (C : Addr) (ns : List Str) (QX : XK) (xs : List V) (H : Hp) : Prop := xs.length = ns.length ∧ xs.length ≤ 1000 ∧ ∀ d, H d = none → QX (.ref C) (some d) (upd H d (.xd (ns.zip xs)))
def tEr (C : Addr) (ns : List Str) (tr : TA) : L2.St → Hp → XK → Prop := fun σ H QX => tr σ H (MkK C ns QX)
theorem x_er (k : tr σ H (MkK C ns QX)) : tEr C ns tr σ H QX := k
end
theorem del_upd {H : Hp} {a : Addr} {o : HO} (h : H a = none) : del (upd H a o) a = H := by
  funext b
  by_cases hb : b = a
  · rw [hb, del_same, h]
  · rw [del_ne hb, upd_ne hb]
theorem MkK.mko {C : Addr} {ns : List Str} {QX : XK} {xs : List V} {H : Hp} (k : MkK C ns QX xs H) : xs.length ≤ 1000 ∧ ∀ a, H a = none → spInit C ns (.ref a :: (xs ++ [])) (upd H a (exo a C none))
    (fun v H2 => v = .non ∧ ∃ (d : Addr) (fs : List (Str × V)), H2 a = some (exo a C (some d)) ∧ H2 d = some (exd d fs) ∧ H d = none ∧ QX (.ref C) (some d) (upd (del H2 a) d (.xd fs))) (fun _ _ _ => False) := by
  obtain ⟨k1, k2, k3⟩ := k
  refine ⟨k2, fun a ha => ⟨a, xs, by rw [List.append_nil], k1, upd_same, fun d hd h => ⟨rfl, d, _, ?_, upd_same, ?_, ?_⟩⟩⟩
  · rw [upd_ne (Ne.symm hd), upd_same]
  · rwa [upd_ne hd] at h
  · have hn : H d = none := by rwa [upd_ne hd] at h
    have e : upd (del (upd (upd (upd H a (exo a C none)) a (exo a C (some d))) d (exd d (ns.zip xs))) a) d (.xd (ns.zip xs)) = upd H d (.xd (ns.zip xs)) := by
      funext b
      by_cases hb : b = d
      · rw [hb, upd_same, upd_same]
      · rw [upd_ne hb, upd_ne hb]
        by_cases hb2 : b = a
        · rw [hb2, del_same, ha]
        · rw [del_ne hb2, upd_ne hb, upd_ne hb2, upd_ne hb2]
    rw [e]
    exact k3 d hn
theorem pa_mono {X : Cx} {es : List Expr} {t : TA} (h : PA X es t) : PA X es (fun σ H Q => ∃ Q0, t σ H Q0 ∧ ∀ xs H1, Q0 xs H1 → Q xs H1) := by
  refine ⟨fun pos pins s σ H Q I q => ?_⟩
  obtain ⟨Q0, q0, k⟩ := q
  refine thn (h.run pos pins s σ H Q0 I q0) fun us s1 z => ?_
  obtain ⟨vs, H1, I1, r1, q1⟩ := z
  exact ⟨vs, H1, I1, r1, k _ _ q1⟩
/-- raise X(..) -/
def tRs (C : Addr) (ns : List Str) (tr : TA) (W : WX) : TS := fun _ σ H => tr σ H (MkK C ns fun cls d H' => W cls d σ H')
theorem x_rs {σ : L2.St} {H : Hp} {C : Addr} {ns : List Str} {tr : TA} {W : WX} {D : Ends} (k : tr σ H (MkK C ns fun cls d H' => W cls d σ H')) : tRs C ns tr W D σ H := k
theorem ps_er {X : Cx} {W : WX} {x : Str} {C : Addr} {ns : List Str} {p pos pos' : Pos} {e : Expr} {es : List Expr} {tr : TA} (B : Er X.prog X.w X.K X.mg X.base x C ns) (hc : X.calm = true) (tk : Takes X W) (hr : Room 2 X.A) (hg : Gl X x) (ha : PA X (e :: es) tr)
    (hdb : (x == ("__debug__" : Str)) = false := by decide) (he : starEach (e :: es) X.env = (false, eval e X.env) :: starEach es X.env := by rfl) (hpl : (backTo pos (starEach es X.env)).any (·.1) = false := by rfl) :
    PS X (.Raise (some (.Call (.Name x p) (e :: es) [] pos)) none pos') (tRs C ns tr W) := by
  obtain ⟨fI, fd, i1, i2, F, b⟩ := B.ex
  have z := ps_raise (pos := pos') hc tk (pmk_oex (p := p) (pos := pos) B.T i1 i2 F hr b .nil pass0 hg B.m (pa_mono ha) hdb he hpl)
  refine ⟨fun pins s σ H D I q => z.run pins s σ H D I ?_⟩
  exact ⟨_, q, fun xs H1 k => k.mko⟩
end Dz
namespace Dz
open PySem L2
section
variable {P : Program} {w : World} {K : PySem.W.Frag} {mg : Str → Option Value} {base : Heap} {N : List Str} {qual : Str} {scope : Scope} {f : Addr} {cd : Value} {A : Around} {outer : List Env} {s : Shared} {H : Hp} {E : XK}
theorem tk0 : Takes (cxOf (L2.CX P w) P w K mg base N qual scope f cd A outer s H E) (fun cls d _ H => E cls d H) := takes_of rfl rfl rfl rfl
theorem pk0 : Passes (L2.CX P w) (cxOf (L2.CX P w) P w K mg base N qual scope f cd A outer s H E) E := passes_call tk0 fun _ _ _ _ h => h
theorem pa0 : PassAny (cxOf (L2.CX P w) P w K mg base N qual scope f cd A outer s H E) E := passAny_of rfl rfl rfl rfl
end
/-! ### texts: partition, split, startswith, endswith -/
def rPart : V → List V → Hp → VK → Prop := fun x xs H Q => ∃ a b : Str, x = .str a ∧ xs = [.str b] ∧ (b.length == 0) = false ∧ a.length ≤ sizeLine ∧ ∀ p, H p = none → Q (.ref p) (upd H p (.tup [.str (Txt.partition a b).1, .str (Txt.partition a b).2.1, .str (Txt.partition a b).2.2]))
def rSplit : V → List V → Hp → VK → Prop := fun x xs H Q => ∃ a b : Str, x = .str a ∧ xs = [.str b] ∧ (b.length == 0) = false ∧ a.length + 2 ≤ sizeLine ∧ ∀ p, H p = none → Q (.ref p) (upd H p (.lst ((Txt.split a b).map V.str)))
def rStarts : V → List V → Hp → VK → Prop := fun x xs H Q => ∃ a b : Str, x = .str a ∧ xs = [.str b] ∧ Q (.bl (Txt.startswith a b)) H
def rEnds : V → List V → Hp → VK → Prop := fun x xs H Q => ∃ a b : Str, x = .str a ∧ xs = [.str b] ∧ Q (.bl (Txt.endswith a b)) H
section
variable {X : Cx}
theorem m_part : MtR X "str.partition" rPart := mt_partition
theorem m_split : MtR X "str.split" rSplit := mt_split
theorem m_starts : MtR X "str.startswith" rStarts := mt_startswith
theorem m_ends : MtR X "str.endswith" rEnds := mt_endswith
end
section
variable {H I : Hp} {M : List (Addr × HO)} {Z : List (Addr × HO) → Prop} {Q : VK} {a b : Str}
theorem x_starts (k : Q (.bl (Txt.startswith a b)) H) : rStarts (.str a) [.str b] H Q := ⟨a, b, rfl, rfl, k⟩
theorem x_ends (k : Q (.bl (Txt.endswith a b)) H) : rEnds (.str a) [.str b] H Q := ⟨a, b, rfl, rfl, k⟩
theorem x_partI (S : Own H I M Z) (hb : (b.length == 0) = false) (ha : a.length ≤ sizeLine) (k : ∀ p I1 H1, Same I I1 → I1 p = some (.tup [.str (Txt.partition a b).1, .str (Txt.partition a b).2.1, .str (Txt.partition a b).2.2]) → Own H1 I1 M Z → Q (.ref p) H1) : rPart (.str a) [.str b] H Q := by
  exact ⟨a, b, rfl, rfl, hb, ha, fun p hp => S.new hp fun I1 e h S1 => k p I1 _ e h S1⟩
theorem x_splitI (S : Own H I M Z) (hb : (b.length == 0) = false) (ha : a.length + 2 ≤ sizeLine) (k : ∀ p I1 H1, Same I I1 → I1 p = some (.lst ((Txt.split a b).map V.str)) → Own H1 I1 M Z → Q (.ref p) H1) : rSplit (.str a) [.str b] H Q := by
  exact ⟨a, b, rfl, rfl, hb, ha, fun p hp => S.new hp fun I1 e h S1 => k p I1 _ e h S1⟩
/-- an error is made in a split heap -/
theorem x_mkI {C : Addr} {ns : List Str} {QX : XK} {xs : List V} (S : Own H I M Z) (hl : xs.length = ns.length) (hz : xs.length ≤ 1000) (k : ∀ d I1 H1, Same I I1 → I1 d = some (.xd (ns.zip xs)) → Own H1 I1 M Z → QX (.ref C) (some d) H1) : MkK C ns QX xs H := by
  exact ⟨hl, hz, fun d hd => S.new hd fun I1 e h S1 => k d I1 _ e h S1⟩
end
end Dz
namespace Dz
open PySem L2
/-- a value or None -/
instance encOpt {α : Type} [Enc α] : Enc (Option α) := ⟨fun o => match o with | none => .none | some x => Enc.enc x, Enc.deep α, fun o => match o with | none => true | some x => Enc.ok x,
  fun o h => by cases o with | none => rfl | some x => exact Enc.lay x h, fun o => by cases o with | none => exact Nat.zero_le _ | some x => exact Enc.dep x⟩
section
variable {K : PySem.W.Frag} {I : Hp} {α : Type} [Enc α] {v : V} {x : α}
theorem Rp.some (h : Rp K I v x) : Rp K I v (Option.some x) := h
theorem Rp.none : Rp K I .non (Option.none : Option α) := Dt.non
theorem Rp.unsome (h : Rp K I v (Option.some x)) : Rp K I v x := h
theorem Rp.unnone (h : Rp K I v (Option.none : Option α)) : v = .non := by
  have h : Dt K I v .none := h
  cases h
  rfl
end
end Dz
namespace Dz
open PySem PySem.Spec PyProof.Rows L2
/-- name = [..], its element may raise -/
theorem ps_setLcx {X : Cx} {E : XK} {i : Nat} {y : Str} {py pos spos : Pos} {elt tg iter : Expr} {ifs : List Expr} {scope : Scope} {own : List (Str × Nat)} {wi : TI} {g : TG} {tt : TT} {te : TE} (hc : X.calm = true) (hN : X.N.Nodup)
    (hstk : X.stack = X.env :: X.outer) (hf : X.env.frame = some X.env.locals) (hx : PassAny X E) (hy : X.N[i]? = some y) (hyl : X.env.scope.names.lookup y = some .local)
    (hsw : swapsWith (.ListComp elt [⟨tg, iter, ifs, 0⟩] scope pos) (some (.Name y py)) spos.line X.env = pure true) (hi : PI X tg iter wi) (ok : BlkOk X.N X.env.scope scope own)
    (hg : ∀ s H C cl fp, PG (X.blk s H scope (compEnvC scope cl C X.env) fp) tg g) (ht : ∀ s H C cl fp, PTs (X.blk s H scope (compEnvC scope cl C X.env) fp) ifs tt)
    (he : ∀ s H C cl fp xe, Passes (CX X.prog X.w) (bx X s H scope cl C fp xe) E → PE (bx X s H scope cl C fp xe) elt te) (hs : ∀ x, foldedSetIterable iter X.env x = pure x := by intro _; rfl) :
    PS X (.Assign [.Name y py] (.ListComp elt [⟨tg, iter, ifs, 0⟩] scope pos) spos) (tAsg (tLc wi g tt te (own.map (·.2))) (gName i)) := by
  refine ⟨fun pins s σ H D I h => ?_⟩
  rw [exec_Assign_Name_used _ _ _ _ hsw]
  have h : tLc wi g tt te (own.map (·.2)) σ H (fun v H1 => gName i v σ H1 D.nx) := h
  refine wpAny_bind (wpAny_standAt (wpAny_bind (wpAny_bind (thn (lcx (Qf := fun _ q => SP X pins D .next q) hc hN hstk hf hx I hi ok hg ht he hs h fun L C q m K1 J1 f1 hn fp => ?_) fun _ _ z => wpAny_pure (wpAny_pure z)))))
  obtain ⟨z0, z1, z2, z3, z4, z5⟩ := fp
  show wpAny _ _ (assign (.Name y py) X.env (.ref L)) _ _ _
  refine wpAny_assign_Name (store_ok2 (v := V.ref L) J1 hN hy (.inl hyl) rfl (fun q2 J2 ⟨b, same, hb⟩ => ?_) (.inr hyl))
  have nb : C ≠ b := hb.elim (fun z => z ▸ z1) fun z => fun e => z4 y b z e.symm
  refine ⟨m, hn.sameBut same nb, fun h3 same3 => ?_⟩
  have J3 := J2.turned (h' := h3) (t' := q2.toks) (fun c o hc e => (same3.2 c hc).trans e) z0 z1 z3 z4 z5
  exact ⟨_, K1, J3, f1⟩
end Dz
namespace Dz
open PySem L2
/-! ### truth tests -/
def tTru (K : PySem.W.Frag) (ta : TE) : TT := fun σ H QB => ta σ H fun x H1 => ∃ c, TruV K x H1 c ∧ QB c H1
theorem pt_truK {X : Cx} {K : PySem.W.Frag} {e : Expr} {ta : TE} (ha : PE X e ta) (he : ∀ whole, isTrue e X.env whole = (do let v ← whole; standAt e.pos; holding [v] (truthy v)) := by intro _; rfl) (hK : X.K = K := by rfl) : PT X e (tTru K ta) := hK ▸ pt_truth ha he
section
variable {σ : L2.St} {H : Hp} {QB : Bool → Hp → Prop} {ta : TE} {K : PySem.W.Frag} {p : Addr} {xs : List V}
theorem x_tru (k : ta σ H fun x H1 => ∃ c, TruV K x H1 c ∧ QB c H1) : tTru K ta σ H QB := k
theorem x_truL (h : SqL K H p xs) (k : QB (!xs.isEmpty) H) : ∃ c, TruV K (.ref p) H c ∧ QB c H := ⟨_, .inl ⟨xs, h, rfl⟩, k⟩
theorem x_truS {z : Str} (h : z.length ≤ sizeLine) (k : QB ((z.length : Int) != 0) H) : ∃ c, TruV K (.str z) H c ∧ QB c H := ⟨_, ⟨h, rfl⟩, k⟩
end
end Dz
namespace Dz
open PySem L2
/-! ### an error that keeps a copy of the list that it is given -/
def spInitL (K : PySem.W.Frag) (C : Addr) (nm : Str) : L2.Sp := fun vs H Q _ => ∃ (a p : Addr) (ys : List V), vs = [.ref a, .ref p] ∧ H a = some (exo a C none) ∧ SqL K H p ys ∧
  ∀ q d, q ≠ a → d ≠ a → d ≠ q → H q = none → H d = none → Q .non (upd (upd (upd H q (.lst ys)) a (exo a C (some d))) d (exd d [(nm, .ref q)]))
structure ErL (P : Program) (w : World) (K : PySem.W.Frag) (mg : Str → Option Value) (base : Heap) (x : Str) (C : Addr) (nm : Str) : Prop where
  T : OexC K C
  ex : ∃ (fI : Addr) (fd : FuncData), PySem.W.findIn K (.ref C) "__init__" = some (some (.ref fI)) ∧ PySem.W.typeIn K (.ref fI) = some (.type "function") ∧ FnOk P w K mg base CX0 1 fI fd ["self", nm] (spInitL K C nm) ∧ Binds K fd ["self", nm] []
  m : mg x = some (.ref C)
def MkKL (K : PySem.W.Frag) (C : Addr) (nm : Str) (QX : XK) (xs : List V) (H : Hp) : Prop := ∃ (p : Addr) (ys : List V), xs = [.ref p] ∧ SqL K H p ys ∧
  ∀ q d, d ≠ q → H q = none → H d = none → QX (.ref C) (some d) (upd (upd H q (.lst ys)) d (.xd [(nm, .ref q)]))
theorem MkKL.mko {K : PySem.W.Frag} {C : Addr} {nm : Str} {QX : XK} {xs : List V} {H : Hp} (k : MkKL K C nm QX xs H) : xs.length ≤ 1000 ∧ ∀ a, H a = none → spInitL K C nm (.ref a :: (xs ++ [])) (upd H a (exo a C none))
    (fun v H2 => v = .non ∧ ∃ (d : Addr) (fs : List (Str × V)), H2 a = some (exo a C (some d)) ∧ H2 d = some (exd d fs) ∧ H d = none ∧ QX (.ref C) (some d) (upd (del H2 a) d (.xd fs))) (fun _ _ _ => False) := by
  obtain ⟨p, ys, rfl, hs, k⟩ := k
  refine ⟨show 1 ≤ 1000 by decide, fun a ha => ⟨a, p, ys, rfl, upd_same, (show Same H (upd H a (exo a C none)) from fun b o e => by rw [upd_ne (fun z => by rw [z, ha] at e; cases e)]; exact e).seq hs, fun q d hqa hda hdq hq hd => ⟨rfl, d, _, ?_, upd_same, ?_, ?_⟩⟩⟩
  · rw [upd_ne (Ne.symm hda), upd_same]
  · rwa [upd_ne hda] at hd
  · have hq0 : H q = none := by rwa [upd_ne hqa] at hq
    have hd0 : H d = none := by rwa [upd_ne hda] at hd
    have e : upd (del (upd (upd (upd (upd H a (exo a C none)) q (.lst ys)) a (exo a C (some d))) d (exd d [(nm, V.ref q)])) a) d (.xd [(nm, V.ref q)]) = upd (upd H q (.lst ys)) d (.xd [(nm, V.ref q)]) := by
      funext b
      by_cases hb : b = d
      · rw [hb, upd_same, upd_same]
      · rw [upd_ne hb, upd_ne hb]
        by_cases hb2 : b = a
        · rw [hb2, del_same, upd_ne (Ne.symm hqa), ha]
        · rw [del_ne hb2, upd_ne hb, upd_ne hb2]
          by_cases hb3 : b = q
          · rw [hb3, upd_same, upd_same]
          · rw [upd_ne hb3, upd_ne hb2, upd_ne hb3]
    rw [e]
    exact k q d hdq hq0 hd0
def tRsL (K : PySem.W.Frag) (C : Addr) (nm : Str) (tr : TA) (W : WX) : TS := fun _ σ H => tr σ H (MkKL K C nm fun cls d H' => W cls d σ H')
theorem x_rsL {σ : L2.St} {H : Hp} {K : PySem.W.Frag} {C : Addr} {nm : Str} {tr : TA} {W : WX} {D : Ends} (k : tr σ H (MkKL K C nm fun cls d H' => W cls d σ H')) : tRsL K C nm tr W D σ H := k
theorem ps_erL {X : Cx} {K : PySem.W.Frag} {W : WX} {x : Str} {C : Addr} {nm : Str} {p pos pos' : Pos} {e : Expr} {es : List Expr} {tr : TA} (B : ErL X.prog X.w K X.mg X.base x C nm) (hc : X.calm = true) (tk : Takes X W) (hr : Room 2 X.A) (hg : Gl X x) (ha : PA X (e :: es) tr)
    (hdb : (x == ("__debug__" : Str)) = false := by decide) (he : starEach (e :: es) X.env = (false, eval e X.env) :: starEach es X.env := by rfl) (hpl : (backTo pos (starEach es X.env)).any (·.1) = false := by rfl) (hK : X.K = K := by rfl) :
    PS X (.Raise (some (.Call (.Name x p) (e :: es) [] pos)) none pos') (tRsL K C nm tr W) := by
  subst hK
  obtain ⟨fI, fd, i1, i2, F, b⟩ := B.ex
  have z := ps_raise (pos := pos') hc tk (pmk_oex (p := p) (pos := pos) B.T i1 i2 F hr b .nil pass0 hg B.m (pa_mono ha) hdb he hpl)
  refine ⟨fun pins s σ H D I q => z.run pins s σ H D I ?_⟩
  exact ⟨_, q, fun xs H1 k => k.mko⟩
theorem x_mkLF {H I : Hp} {M : List (Addr × HO)} {Z : List (Addr × HO) → Prop} {K : PySem.W.Frag} {C p : Addr} {nm : Str} {QX : XK} {ys : List V} (S : Own H I M Z) (h : SqL K H p ys)
    (k : ∀ q d I1 H1, I q = none → Same I I1 → I1 q = some (.lst ys) → I1 d = some (.xd [(nm, .ref q)]) → Own H1 I1 M Z → QX (.ref C) (some d) H1) : MkKL K C nm QX [.ref p] H := by
  refine ⟨p, ys, rfl, h, fun q d hdq hq hd => ?_⟩
  have fq : I q = none := S.imm.free hq
  obtain ⟨I1, e1, h1, S1⟩ := S.alloc (o := .lst ys) hq
  obtain ⟨I2, e2, h2, S2⟩ := S1.alloc (o := .xd [(nm, V.ref q)]) (p := d) (by rw [upd_ne hdq]; exact hd)
  exact k q d I2 _ fq (e1.trans e2) (e2 _ _ h1) h2 S2
theorem x_mkLI {H I : Hp} {M : List (Addr × HO)} {Z : List (Addr × HO) → Prop} {K : PySem.W.Frag} {C p : Addr} {nm : Str} {QX : XK} {ys : List V} (S : Own H I M Z) (h : SqL K H p ys)
    (k : ∀ q d I1 H1, Same I I1 → I1 q = some (.lst ys) → I1 d = some (.xd [(nm, .ref q)]) → Own H1 I1 M Z → QX (.ref C) (some d) H1) : MkKL K C nm QX [.ref p] H := by
  refine ⟨p, ys, rfl, h, fun q d hdq hq hd => ?_⟩
  obtain ⟨I1, e1, h1, S1⟩ := S.alloc (o := .lst ys) hq
  obtain ⟨I2, e2, h2, S2⟩ := S1.alloc (o := .xd [(nm, V.ref q)]) (p := d) (by rw [upd_ne hdq]; exact hd)
  exact k q d I2 _ (e1.trans e2) (e2 _ _ h1) h2 S2
end Dz
namespace Dz
open PySem L2
section
variable {P : Program} {w : World} {K : PySem.W.Frag} {mg : Str → Option Value} {base : Heap} {N : List Str} {qual : Str} {scope : Scope} {f : Addr} {cd : Value} {A : Around} {outer : List Env} {s : Shared} {H : Hp} {E : XK}
theorem po0 : PassesOwn (model P w) (cxOf (L2.CX P w) P w K mg base N qual scope f cd A outer s H E).A (cxOf (L2.CX P w) P w K mg base N qual scope f cd A outer s H E).env (cxOf (L2.CX P w) P w K mg base N qual scope f cd A outer s H E).xe := passes_of rfl
end
end Dz

/-! Objects of the program: own == and != with any truth value as the answer, own len and str. -/
namespace Dz
open PySem L2 PySem.Spec PyProof.Rows
section
variable {prog : Program} {w : World} {A : Around} {E : Value → Shared → Prop} {s : Shared} {K : PySem.W.Frag} {x C f : Addr} {ox : Obj} {od : Option Obj}
open PySem.W
theorem ifBound_blt {M : Model} {name : Str} {id : String} {args : List Value} {Q : Option Value → Shared → Prop} (X : K.In s.heap) (I : InstAt s.heap x ox C od) (hs : findIn K (.ref C) name = some (some (.builtin id)))
    (hb : ∀ self, bindSpecial (.builtin id) self = pure (.builtin id, [self])) (h : wpAny M A (call (.builtin id) (.ref x :: args)) (fun v => Q (some v)) E s) : wpAny M A (callSpecialIfBound? (.ref x) name args) Q E s := by
  simp only [callSpecialIfBound?, bindSpecialIfBound?]
  refine wpAny_holding (wpAny_bind (wpAny_bind (wpAny_bind (I.type.here ((looks_findIn X hs).here ?_)))))
  simp only [hb]
  refine wpAny_bind (wpAny_askSetting (wpAny_ite ?_))
  have fin : wpAny M A (call (.builtin id) ([.ref x] ++ args) >>= fun v => pure (some v)) Q E s := wpAny_bind (wpAny_mono h (fun v s' h' => wpAny_pure h') fun _ _ h' => h')
  split
  · exact wpAny_bind (wpAny_pure (wpAny_pure (by exact fin)))
  · exact wpAny_tryCatch (wpAny_bind (wpAny_pure (wpAny_pure (by exact fin))))
/-- object.__ne__ over an own __eq__ -/
theorem objNe_own {y : Value} {Q : Fin → Shared → Prop} (hu : A.units < cLine) (X : K.In s.heap) (I : InstAt s.heap x ox C od) (hs : findIn K (.ref C) "__eq__" = some (some (.ref f))) (hf : isFn K (.ref f) = true)
    (h : wpAny (model prog w) A (call (.ref f) [.ref x, y]) (fun v s' => ∃ b, v = .bool b ∧ Q (.done (.ret (.bool (!b)))) s') E s) :
    wpAny (model prog w) A (Builtin.«object.__ne__» ⟨[.ref x, y], []⟩) Q E s := by
  unfold Builtin.«object.__ne__»
  repeat (first
    | with_reducible refine wpAny_cRoomFor hu ?_
    | (refine wpAny_bind (m := callSpecialIfBound? (.ref x) (Str.ofString "__eq__") [y])
        (ifBound_K X I hs hf (wpAny_mono h (fun r s' hr => by
          obtain ⟨b, rfl, hq⟩ := hr
          repeat (first | exact hq | exact wpAny_pure hq | exact wpAny_truthy_bool hq | (refine wpAny_bind (m := truthy (.bool _)) (wpAny_truthy_bool ?_)) | wp_step)) fun _ _ e => e)))
    | wp_step)
theorem cmp_ne {Q : Value → Shared → Prop} {y tb : Value} {h₀ : Heap} {L : Addr} {m : Str → Option Value} (hu : A.units + 1 < cLine) (F : Fr h₀ L s.heap m) (X₀ : K.In h₀) (I : InstAt s.heap x ox C od) (hb : Looks (model prog w) s.heap (typeOf y) tb) (hn : notFirst K C tb = true)
    (hm : mroIn K C (.type "object") = some true) (he : findIn K (.ref C) "__ne__" = some (some (.builtin "object.__ne__")))
    (hs : findIn K (.ref C) "__eq__" = some (some (.ref f))) (hf : isFn K (.ref f) = true)
    (h : wpAny (model prog w) A.in1 (call (.ref f) [.ref x, y]) (fun v s' => ∃ b, v = .bool b ∧ Q (.bool (!b)) s') E s) : wpAny (model prog w) A (richCompare .NotEq (.ref x) y) Q E s := by
  have X := X₀.keeps F.keep
  have one : wpAny (model prog w) A (tryCompare (.ref x) "__ne__" y) (fun r s' => ∃ v, r = some v ∧ Q v s') E s := by
    unfold tryCompare
    refine wpAny_bind (ifBound_blt X I he PySem.F.cmp_object.ne.bind (wpAny_call (codeAny_call_builtin PySem.F.cmp_object.ne.plain PySem.F.cmpEntry_ne
      (check_slot PySem.F.cmpKind_ne PySem.F.cmpSplit_ne (I.type.andThen (looks_mroIn X hm)) (PySem.F.cmpArgs_ne _ _) (objNe_own (A := A.in1) hu X I hs hf (wpAny_mono h (fun v s' hv => ?_) fun _ _ e => e))))))
    obtain ⟨b, rfl, hq⟩ := hv
    first | exact ⟨b, rfl, wpAny_pure ⟨_, rfl, hq⟩⟩ | exact ⟨b, rfl, wpAny_pure (wpAny_pure ⟨_, rfl, hq⟩)⟩ | exact ⟨b, rfl, ⟨_, rfl, hq⟩⟩
  unfold richCompare
  simp only [oneThing_ref]
  refine wpAny_holding (wpAny_bind (wpAny_cRoomFor (Nat.lt_of_succ_lt hu) ?_))
  rw [cmpInfo_NotEq]
  dsimp only
  refine wpAny_bind (I.type.here (wpAny_bind (hb.here ?_)))
  split
  · rename_i q
    have e : subIn K tb (.ref C) = some false := by
      rcases Bool.or_eq_true_iff.mp hn with e | e
      · rw [beq_iff_eq.mp e] at q; simp at q
      · exact beq_iff_eq.mp e
    refine wpAny_bind ((looks_subIn X e).here ?_)
    simp only [Bool.false_eq_true, if_false]
    refine wpAny_bind (wpAny_mono one (fun r s' z => ?_) fun _ _ e => e)
    obtain ⟨v, rfl, hq⟩ := z
    exact wpAny_pure hq
  · refine wpAny_bind (wpAny_pure ?_)
    simp only [Bool.false_eq_true, if_false]
    refine wpAny_bind (wpAny_mono one (fun r s' z => ?_) fun _ _ e => e)
    obtain ⟨v, rfl, hq⟩ := z
    exact wpAny_pure hq
/-- len(x), own -/
theorem len_own {Q : Value → Shared → Prop} (X : K.In s.heap) (I : InstAt s.heap x ox C od) (hs : findIn K (.ref C) "__len__" = some (some (.ref f))) (hf : isFn K (.ref f) = true)
    (h : wpAny (model prog w) A.in1 (call (.ref f) [.ref x]) (fun v s' => ∃ (i : Int) (t : Tok), v = .int i t ∧ 0 ≤ i ∧ i < 2 ^ 63 ∧ Q (.int i s'.toks) { s' with toks := s'.toks + 1 }) E s) : wpAny (model prog w) A (call (.builtin "len") [.ref x]) Q E s := by
  refine Calls.call_function_entry PySem.kind_len PySem.plain_len PySem.entry_len (PySem.args_len1 _) ?_
  unfold Builtin.«len»
  refine wpAny_bind (m := oneArg "len" _) (wpAny_pure ?_)
  refine wpAny_bind (m := callSpecial? (.ref x) (PySem.Str.ofString "__len__")) (special_fn X I hs (beq_iff_eq.mp hf) (wpAny_mono h (fun r s' hr => ?_) fun _ _ y => y))
  obtain ⟨i, t, rfl, h0, h1, hq⟩ := hr
  refine wpAny_bind (wpAny_holding (wpAny_pure ?_))
  refine wpAny_bind (wpAny_letGo ?_)
  show wpAny _ _ (if (i : Int) < 0 then _ else _) _ _ _
  rw [if_neg (by omega)]
  show wpAny _ _ (if (i : Int) ≥ 2 ^ 63 then _ else _) _ _ _
  rw [if_neg (by omega)]
  exact wpAny_bind (wpAny_mkInt (wpAny_pure ⟨_, rfl, hq⟩))
end
/-! ### the rules -/
/-- the facts of a class with its own == -/
structure Oeq (K : PySem.W.Frag) (C f : Addr) : Prop where
  eq : PySem.W.findIn K (.ref C) "__eq__" = some (some (.ref f))
  ne : PySem.W.findIn K (.ref C) "__ne__" = some (some (.builtin "object.__ne__"))
  fn : PySem.W.isFn K (.ref f) = true
  ob : PySem.W.mroIn K C (.type "object") = some true
def rOwnEq (K : PySem.W.Frag) (C : Addr) (sp : L2.Sp) (E : XK) : R2 := fun x y H Q => ∃ a dx fs t, x = .ref a ∧ H a = some (.ins C dx fs) ∧ TyX K H y t ∧ PySem.W.notFirst K C t = true ∧ sp [x, y] H (fun v H' => ∃ b, v = .bl b ∧ Q (.bl b) H') E
def rOwnNe (K : PySem.W.Frag) (C : Addr) (sp : L2.Sp) (E : XK) : R2 := fun x y H Q => ∃ a dx fs t, x = .ref a ∧ H a = some (.ins C dx fs) ∧ TyX K H y t ∧ PySem.W.notFirst K C t = true ∧ sp [x, y] H (fun v H' => ∃ b, v = .bl b ∧ Q (.bl (!b)) H') E
def cLenO (C : Addr) (sp : L2.Sp) (E : XK) : List V → Hp → VK → Prop := fun xs H Q => ∃ a dx fs, xs = [.ref a] ∧ H a = some (.ins C dx fs) ∧ sp [.ref a] H (fun v H' => ∃ i : Int, v = .int i ∧ 0 ≤ i ∧ i < 2 ^ 63 ∧ Q (.int i) H') E
def cStrO (C : Addr) (sp : L2.Sp) (E : XK) : List V → Hp → VK → Prop := fun xs H Q => ∃ a dx fs, xs = [.ref a] ∧ H a = some (.ins C dx fs) ∧ sp [.ref a] H (fun v H' => ∃ z : Str, v = .str z ∧ Q (.str z) H') E
def cStrI : List V → Hp → VK → Prop := fun xs H Q => ∃ i : Int, xs = [V.int i] ∧ i.natAbs.log2 < 1920 ∧ Q (.str (Str.ofString (toString i))) H
theorem c_strI {X : Cx} : CallR X (.type "str") cStrI := call_str_int
section
variable {X : Cx} {CX : CXT} {n : Nat} {C f : Addr} {fd : FuncData} {ps : List Str} {sp : L2.Sp} {E : XK}
theorem run_fnA {A : Around} {pins : List (Addr × Obj)} {σ : L2.St} {H : Hp} {s : Shared} {Q : VK} {us : List Value} {vs : List V} (sb : Sub X n A) (F : FnOk X.prog X.w X.K X.mg X.base CX n f fd ps sp) (hb : Binds X.K fd ps []) (hx : Passes CX X E)
    (I : Inv X pins σ H s) (r : Vals vs us) (h : sp vs H Q E) : wpAny (model X.prog X.w) A (call (.ref f) us) (EP X pins σ Q) X.xe s := by
  have e0 : Env0 X.prog X.w X.K X.mg X.base A X.stack s H := by
    have e := I.env0
    exact ⟨by rw [sb.fr]; exact e.frames, e.mod, e.bs, e.bsz, e.funs, e.frf, e.hok, e.bare⟩
  have hl := F.len _ _ _ _ h
  refine wpAny_call (codeAny_mono (F.run A X.stack s H ⟨us, []⟩ us vs Q E sb.room e0 (by
    have := hb s us I.kIn (by simpa [r.length] using hl)
    simpa using this) r h) fun r s' hq => ?_)
  cases r with
  | error e => exact hx pins σ H s e s' I hq
  | ok fl =>
    cases fl with
    | ret w => exact I.after hq
    | next => exact False.elim hq
    | brk => exact False.elim hq
    | cont => exact False.elim hq
theorem op_eqO {K : PySem.W.Frag} (F : FnOk X.prog X.w X.K X.mg X.base CX n f fd ps sp) (hr : Room n X.A) (O : Oeq X.K C f) (hb : Binds X.K fd ps []) (hx : Passes CX X E) (hK : X.K = K := by rfl) : OpR X (compareOp .Eq) (rOwnEq K C sp E) := by
  subst hK
  intro pins s σ H x y v u Q I rx ry hq
  obtain ⟨a, dx, fs, t, rfl, ha, ty, hn, h⟩ := hq
  cases rx
  obtain ⟨mA, J, _⟩ := ins_get I.hok ha
  obtain ⟨od, J, _⟩ := J.look
  obtain ⟨m, hF⟩ := I.fr
  obtain ⟨P, kx, p, _⟩ := kit_of I ry ty
  show wpAny (model X.prog X.w) X.A (richCompare .Eq (.ref a) u) (EP X pins σ Q) X.xe s
  refine PySem.W.cmp_K (op := .Eq) (tb := t) hr.units0 hF I.ok.mod.kin J (kx.ty _ _ I.kIn p) hn O.eq O.fn ?_
  refine wpAny_mono (run_fn F hr hb .nil hx I (.cons (show L2.RelV (.ref a) (.ref a) from rfl) (.cons ry .nil)) h) (fun r s' z => ?_) fun _ _ x => x
  obtain ⟨z, H', I', rz, b, ez, q⟩ := z
  subst ez
  cases rz
  exact ⟨.bl b, H', I', rfl, q⟩
theorem op_neO {K : PySem.W.Frag} (F : FnOk X.prog X.w X.K X.mg X.base CX n f fd ps sp) (hr : Room (n + 1) X.A) (O : Oeq X.K C f) (hb : Binds X.K fd ps []) (hx : Passes CX X E) (hK : X.K = K := by rfl) : OpR X (compareOp .NotEq) (rOwnNe K C sp E) := by
  subst hK
  intro pins s σ H x y v u Q I rx ry hq
  obtain ⟨a, dx, fs, t, rfl, ha, ty, hn, h⟩ := hq
  cases rx
  obtain ⟨mA, J, _⟩ := ins_get I.hok ha
  obtain ⟨od, J, _⟩ := J.look
  obtain ⟨m, hF⟩ := I.fr
  obtain ⟨P, kx, p, _⟩ := kit_of I ry ty
  have sb : Sub X (n + 1) X.A := ⟨hr, rfl⟩
  show wpAny (model X.prog X.w) X.A (richCompare .NotEq (.ref a) u) (EP X pins σ Q) X.xe s
  refine cmp_ne (show X.A.in1.units < cLine from sb.in1.room.units0) hF I.ok.mod.kin J (kx.ty _ _ I.kIn p) hn O.ob O.ne O.eq O.fn ?_
  refine wpAny_mono (run_fnA sb.in1 F hb hx I (.cons (show L2.RelV (.ref a) (.ref a) from rfl) (.cons ry .nil)) h) (fun r s' z => ?_) fun _ _ x => x
  obtain ⟨z, H', I', rz, b, ez, q⟩ := z
  subst ez
  cases rz
  exact ⟨b, rfl, .bl (!b), H', I', rfl, q⟩
theorem c_lenO {K : PySem.W.Frag} (F : FnOk X.prog X.w X.K X.mg X.base CX n f fd ps sp) (hr : Room (n + 2) X.A) (O : Meth X.K C "__len__" f) (hb : Binds X.K fd ps []) (hx : Passes CX X E) (hK : X.K = K := by rfl) : CallR X (.builtin "len") (cLenO C sp E) := by
  subst hK
  intro pins s σ H xs us Q I r hq
  obtain ⟨a, dx, fs, rfl, ha, h⟩ := hq
  obtain ⟨u, rfl, rx⟩ := vals1 r
  cases rx
  obtain ⟨mA, J, _⟩ := ins_get I.hok ha
  obtain ⟨od, J, _⟩ := J.look
  have sb : Sub X (n + 2) X.A := ⟨hr, rfl⟩
  refine len_own I.kIn J O.at_ O.fn ?_
  refine wpAny_mono (run_fnA (sb.in1.mono (by omega)) F hb hx I (.cons (show L2.RelV (.ref a) (.ref a) from rfl) .nil) h) (fun r s' z => ?_) fun _ _ x => x
  obtain ⟨z, H', I', rz, i, ez, h0, h1, q⟩ := z
  subst ez
  obtain ⟨t, rfl⟩ := rz
  exact ⟨i, t, rfl, h0, h1, .int i, H', I'.tok _, ⟨_, rfl⟩, q⟩
theorem c_strO {K : PySem.W.Frag} (F : FnOk X.prog X.w X.K X.mg X.base CX n f fd ps sp) (hr : Room (n + 2) X.A) (O : Meth X.K C "__str__" f) (hb : Binds X.K fd ps []) (hx : Passes CX X E) (hK : X.K = K := by rfl) : CallR X (.type "str") (cStrO C sp E) := by
  subst hK
  intro pins s σ H xs us Q I r hq
  obtain ⟨a, dx, fs, rfl, ha, h⟩ := hq
  obtain ⟨u, rfl, rx⟩ := vals1 r
  cases rx
  obtain ⟨mA, J, _⟩ := ins_get I.hok ha
  obtain ⟨od, J, _⟩ := J.look
  have sb : Sub X (n + 2) X.A := ⟨hr, rfl⟩
  refine PySem.W.kso_call sb.in1.in1.room.units0 I.kIn J O.at_ O.fn ?_
  refine wpAny_mono (run_fnA sb.in1.in1 F hb hx I (.cons (show L2.RelV (.ref a) (.ref a) from rfl) .nil) h) (fun r s' z => ?_) fun _ _ x => x
  obtain ⟨z, H', I', rz, i, ez, q⟩ := z
  subst ez
  obtain ⟨t, rfl⟩ := rz
  exact ⟨.str i, H', I', ⟨_, rfl⟩, q⟩
theorem c_isiK {K : PySem.W.Frag} (hK : X.K = K := by rfl) : CallR X (.builtin "isinstance") (rIsi K) := hK ▸ call_isi
def gSeq (K : PySem.W.Frag) (m : Nat) (t : TGs) : TG := fun v σ H R => gTup K m t v σ H R ∨ gUnl K m t v σ H R
/-- a target of several names over a tuple or a list -/
theorem pg_seqK {K : PySem.W.Frag} {es : List Expr} {k : Nat} {t : TGs} {m : Nat} {pos : Pos} (hc : X.calm = true) (h : PGs X es t) (hn : (assignEach es X.env).length = m := by rfl) (hst : (assignEach es X.env).findIdx? (·.1) = none := by rfl) (hK : X.K = K := by rfl) :
    PG X (.Tuple es k pos) (gSeq K m t) := by
  subst hK
  refine ⟨fun pins s σ H v u Q I r hw => ?_⟩
  rcases hw with hw | hw
  · exact (pg_tup hc h hn hst).run pins s σ H v u Q I r hw
  · exact (pg_unl hc h hn hst).run pins s σ H v u Q I r hw
end
/-! ### steps -/
section
variable {σ : L2.St} {H I I' : Hp} {M : List (Addr × HO)} {Z : List (Addr × HO) → Prop} {K : PySem.W.Frag} {Q : VK}
theorem x_fld {te : TE} {f : Str} (k : te σ H fun x H1 => ∃ a C dx fs v, x = .ref a ∧ H1 a = some (.ins C dx fs) ∧ Cls K C ∧ NoAttr K C f ∧ fs.lookup f = some v ∧ Q v H1) : tFld K te f σ H Q := k
theorem x_fldI {a C dx : Addr} {fs : List (Str × V)} {f : Str} {v : V} {P : V → Prop} (h : H a = some (.ins C dx fs)) (c : Cls K C) (n : NoAttr K C f) (l : fs.lookup f = some v) (k : P v) :
    ∃ a' C dx fs v, V.ref a = .ref a' ∧ H a' = some (.ins C dx fs) ∧ Cls K C ∧ NoAttr K C f ∧ fs.lookup f = some v ∧ P v := ⟨a, C, dx, fs, v, rfl, h, c, n, l, k⟩
theorem x_sFld {ta tv : TE} {f : Str} {nx : L2.St → Hp → Prop} {rt : VK} {bk ct : L2.St → Hp → Prop} (k : tv σ H fun y H1 => ta σ H1 fun x H2 => ∃ a C dx fs, x = .ref a ∧ H2 a = some (.ins C dx fs) ∧ Cls K C ∧ NoAttr K C f ∧ fs.length < 1000 ∧
  nx σ (upd H2 a (.ins C dx (putF f y fs)))) : sFld K ta tv f ⟨nx, rt, bk, ct⟩ σ H := k
theorem x_sFldO {a C dx : Addr} {fs : List (Str × V)} {f : Str} {y : V} {G : Hp → Prop} (i : Nat) (S : Own H I M Z) (h : M[i]? = some (a, .ins C dx fs)) (c : Cls K C) (n : NoAttr K C f) (l : fs.length < 1000)
    (k : ∀ H', Own H' I (M.set i (a, .ins C dx (putF f y fs))) Z → G H') : ∃ a' C dx fs, V.ref a = .ref a' ∧ H a' = some (.ins C dx fs) ∧ Cls K C ∧ NoAttr K C f ∧ fs.length < 1000 ∧ G (upd H a' (.ins C dx (putF f y fs))) :=
  ⟨a, C, dx, fs, rfl, S.get h, c, n, l, k _ (S.set i h)⟩
theorem x_gSeqT {m : Nat} {gs : TGs} {R : L2.St → Hp → Prop} {a : Addr} {xs : List V} (h : SqT K H a xs) (hl : xs.length = m) (k : gs xs σ H R) : gSeq K m gs (.ref a) σ H R := .inl ⟨a, xs, rfl, h, hl, k⟩
theorem x_gSeqL {m : Nat} {gs : TGs} {R : L2.St → Hp → Prop} {a : Addr} {xs : List V} (h : SqL K H a xs) (hl : xs.length = m) (k : gs xs σ H R) : gSeq K m gs (.ref a) σ H R := .inr ⟨a, xs, rfl, h, hl, k⟩
theorem ty_tup {a : Addr} {xs : List V} (h : SqT K H a xs) : TyX K H (.ref a) (.type "tuple") := by
  rcases h with (h | ⟨ob, h⟩) | ⟨o, _, _, lk, c, _⟩
  · exact .base (.tup h)
  · exact .fTuple h
  · exact .kTuple lk c
theorem x_lenO {C : Addr} {sp : L2.Sp} {E : XK} {a dx : Addr} {fs : List (Str × V)} (h : H a = some (.ins C dx fs)) (k : sp [.ref a] H (fun v H' => ∃ i : Int, v = .int i ∧ 0 ≤ i ∧ i < 2 ^ 63 ∧ Q (.int i) H') E) : cLenO C sp E [.ref a] H Q := ⟨a, dx, fs, rfl, h, k⟩
theorem x_strO {C : Addr} {sp : L2.Sp} {E : XK} {a dx : Addr} {fs : List (Str × V)} (h : H a = some (.ins C dx fs)) (k : sp [.ref a] H (fun v H' => ∃ z : Str, v = .str z ∧ Q (.str z) H') E) : cStrO C sp E [.ref a] H Q := ⟨a, dx, fs, rfl, h, k⟩
theorem x_eqO {C : Addr} {sp : L2.Sp} {E : XK} {a dx : Addr} {fs : List (Str × V)} {y : V} {t : Value} (h : H a = some (.ins C dx fs)) (ty : TyX K H y t) (hn : PySem.W.notFirst K C t = true) (k : sp [.ref a, y] H (fun v H' => ∃ b, v = .bl b ∧ Q (.bl b) H') E) : rOwnEq K C sp E (.ref a) y H Q := ⟨a, dx, fs, t, rfl, h, ty, hn, k⟩
theorem x_neO {C : Addr} {sp : L2.Sp} {E : XK} {a dx : Addr} {fs : List (Str × V)} {y : V} {t : Value} (h : H a = some (.ins C dx fs)) (ty : TyX K H y t) (hn : PySem.W.notFirst K C t = true) (k : sp [.ref a, y] H (fun v H' => ∃ b, v = .bl b ∧ Q (.bl (!b)) H') E) : rOwnNe K C sp E (.ref a) y H Q := ⟨a, dx, fs, t, rfl, h, ty, hn, k⟩
theorem nf_ty {C : Addr} {n : String} (h : PySem.W.subIn K (.type n) (.ref C) = some false) : PySem.W.notFirst K C (.type n) = true := by
  unfold PySem.W.notFirst
  rw [h]
  simp
theorem nf_own {C : Addr} : PySem.W.notFirst K C (.ref C) = true := by
  unfold PySem.W.notFirst
  simp
theorem x_isi {x c : V} {t u : Value} {b : Bool} (hc : ClsV c u) (ty : TyX K H x t) (e : PySem.W.kitOne K t u = some b) (k : Q (.bl b) H) : rIsi K [x, c] H Q := ⟨x, c, t, u, b, rfl, hc, ty, e, k⟩
/-- a new instance: what its making asks -/
theorem x_make {C : Addr} {sp : L2.Sp} {E : XK} {dvs : List V} {tr : TA} (k : tr σ H fun vs H1 => ∀ x dx, H1 x = none → H1 dx = none → dx ≠ x → sp (.ref x :: (vs ++ dvs)) (upd (upd H1 dx (.own x)) x (.ins C dx [])) (fun v H2 => v = .non ∧ Q (.ref x) H2) E) : tMake C sp dvs E tr σ H Q := k
theorem x_makeN {C : Addr} {sp : L2.Sp} {E : XK} {n m : Nat} {gV : List V → List V → List V} {tr tk : TA} (k : tr σ H fun vs H1 => tk σ H1 fun zs H2 => vs.length = n ∧ zs.length = m ∧ ∀ x dx, H2 x = none → H2 dx = none → dx ≠ x → sp (gV (.ref x :: vs) zs) (upd (upd H2 dx (.own x)) x (.ins C dx [])) (fun v H3 => v = .non ∧ Q (.ref x) H3) E) : tMakeN C n m sp gV E tr tk σ H Q := k
theorem own_made {x dx C : Addr} {Gp : Prop} (S : Own H I M Z) (h1 : H x = none) (h2 : H dx = none) (h3 : dx ≠ x)
    (k : ∀ I', Same I I' → Own (upd (upd H dx (.own x)) x (.ins C dx [])) I' ((x, .ins C dx []) :: M) Z → Gp) : Gp :=
  S.new h2 fun I' e _ S' => k I' e (S'.newM (by rw [upd_ne (Ne.symm h3)]; exact h1))
theorem x_fmtI {i : Int} {P : Str → Prop} (h : i.natAbs.log2 < 1920) (k : P (Str.ofString (toString i))) : (∃ y : Str, V.int i = .str y ∧ y.length ≤ sizeLine ∧ P y) ∨ ∃ j : Int, V.int i = .int j ∧ j.natAbs.log2 < 1920 ∧ P (Str.ofString (toString j)) := .inr ⟨i, rfl, h, k⟩
theorem x_fmt {te : TE} (k : te σ H fun x H1 => (∃ y : Str, x = .str y ∧ y.length ≤ sizeLine ∧ Q (.str y) H1) ∨ ∃ i : Int, x = .int i ∧ i.natAbs.log2 < 1920 ∧ Q (.str (toString i)) H1) : tFmt te σ H Q := k
theorem x_js {t : TE} {ts : List TE} {acc : Str} {Qj : Str → Hp → Prop} (k : t σ H fun x H1 => ∃ y : Str, x = .str y ∧ (acc ++ y).length ≤ sizeLine ∧ tJs ts (acc ++ y) σ H1 Qj) : tJs (t :: ts) acc σ H Qj := k
theorem x_js0 {acc : Str} {Qj : Str → Hp → Prop} (k : Qj acc H) : tJs [] acc σ H Qj := k
theorem x_jsS {z acc : Str} {Pj : Str → Prop} (h : (acc ++ z).length ≤ sizeLine) (k : Pj z) : ∃ y : Str, V.str z = .str y ∧ (acc ++ y).length ≤ sizeLine ∧ Pj y := ⟨z, rfl, h, k⟩
theorem empty_app (z : Str) : Str.empty ++ z = z := sg_inj (by rw [sg_app]; rfl)
theorem x_strI {i : Int} (h : i.natAbs.log2 < 1920) (k : Q (.str (Str.ofString (toString i))) H) : cStrI [.int i] H Q := ⟨i, rfl, h, k⟩
end
end Dz

namespace Dz
open PySem L2
abbrev sSource : Stmt := (PySem.Challenge.pw_everydoor_k21_cases.main.body.getD 4 (.Pass ⟨0, 0, 0, 0⟩))
abbrev sDraw : Stmt := (PySem.Challenge.pw_everydoor_k21_cases.main.body.getD 5 (.Pass ⟨0, 0, 0, 0⟩))
local macro_rules | `(tactic| walk_at "sm") => `(tactic| first | exact Same.refl _ | assumption | (refine' Same.trans ?_ (by assumption); walk_at "sm"))
local macro_rules | `(tactic| walk_at "own") => `(tactic| first
  | exact upd_same
  | assumption
  | (apply Own.get (i := 0); assumption; with_unfolding_all rfl)
  | (apply Own.get (i := 1); assumption; with_unfolding_all rfl)
  | (apply Own.get (i := 2); assumption; with_unfolding_all rfl)
  | (apply Own.get (i := 3); assumption; with_unfolding_all rfl)
  | (apply Own.get (i := 4); assumption; with_unfolding_all rfl)
  | (apply Own.get (i := 5); assumption; with_unfolding_all rfl))
local macro_rules | `(tactic| walk_at "fix") => `(tactic| first
  | assumption
  | (apply Own.imm; assumption; assumption)
  | (apply Own.imm; assumption; apply (show ∀ {I J : Hp}, Same I J → ∀ {a : Addr} {o : HO}, I a = some o → J a = some o from fun s _ _ e => s _ _ e); rotate_left; assumption; walk_at "sm"))
local macro_rules | `(tactic| walk_at "sq") => `(tactic| first
  | (apply SqL.of; walk_at "own")
  | (apply SqL.of; walk_at "fix")
  | (apply Same.seq; (apply Own.imm; assumption); first | assumption | (apply Same.seq; rotate_left; assumption; walk_at "sm")))
local macro_rules | `(tactic| walk_at "sqt") => `(tactic| first
  | (apply SqT.of; walk_at "own")
  | (apply SqT.of; walk_at "fix")
  | (apply Same.seqT; (apply Own.imm; assumption); first | assumption | (apply Same.seqT; rotate_left; assumption; walk_at "sm")))
local macro_rules | `(tactic| walk_at "ar") => `(tactic| first | assumption | omega | decide | exact wide_div (by assumption) (by assumption) (by decide) (by decide) | (constructor <;> omega) | (left; constructor <;> omega) | (right; constructor <;> omega))
local macro_rules | `(tactic| walk_at "x1") => `(tactic| with_reducible first
  | refine' x_seq ?_
  | refine' x_asg ?_
  | refine' x_name ?_
  | (refine' x_var ?x_h ?_; (case x_h => with_unfolding_all rfl))
  | refine' x_c ?_
  | refine' x_op ?_
  | refine' x_cons ?_
  | refine' x_nil ?_
  | refine' x_cb ?_
  | refine' x_ifS ?_
  | refine' x_test ?_
  | refine' x_and ?_
  | refine' x_or ?_
  | refine' x_not ?_
  | refine' x_bl ?_
  | refine' x_rI0 ?_
  | refine' x_eqI ?_
  | refine' x_neI ?_
  | refine' x_eqS ?_
  | refine' x_neS ?_
  | refine' x_eqB ?_
  | refine' x_neB ?_
  | refine' x_intI ?_
  | refine' x_intB ?_
  | refine' x_gSub ?_
  | refine' x_gCons ?_
  | refine' x_gNil ?_
  | refine' x_ret ?_
  | refine' x_retN ?_
  | refine' x_next ?_
  | refine' x_drop ?_
  | refine' x_call ?_
  | refine' x_sl ?_
  | refine' x_noPart ?_
  | refine' x_part ?_
  | refine' x_intE ?_
  | refine' x_tup ?_
  | refine' x_lst ?_
  | refine' x_iList ?_
  | refine' x_iTup ?_
  | refine' x_range1 ?_
  | refine' x_tdget ?_
  | refine' x_tdin ?_
  | refine' x_tdnotin ?_
  | refine' x_sdput ?_
  | refine' x_trev ?_
  | refine' x_for ?_
  | refine' x_lc ?_
  | refine' x_yes ?_
  | refine' x_un ?_
  | refine' x_bm ?_
  | refine' x_bm0 ?_
  | refine' x_tB ?_
  | refine' x_notV ?_
  | refine' x_andV ?_
  | refine' x_orV ?_
  | refine' x_ifE ?_
  | refine' x_isN ?_
  | refine' x_notN ?_
  | refine' x_inSg ?_
  | refine' x_notInSg ?_
  | refine' x_min2 ?_
  | refine' x_tyS ?_
  | refine' x_ifTrue ?_
  | refine' x_ifFalse ?_
  | refine' x_ifN ?_)
local macro_rules | `(tactic| walk_at "x2") => `(tactic| first
  | ((with_reducible refine' x_mod ?x_h ?_); (case x_h => walk_at "ar"))
  | ((with_reducible refine' x_rI ?x_h ?_); (case x_h => walk_at "ar"))
  | ((with_reducible refine' x_lenL ?x_h ?_); (case x_h => walk_at "sq"))
  | ((with_reducible refine' x_lenT ?x_h ?_); (case x_h => walk_at "sqt"))
  | ((with_reducible refine' x_ixL ?x_h ?x_a ?_); (case x_h => walk_at "sq"); (case x_a => first | with_unfolding_all rfl | assumption))
  | ((with_reducible refine' x_ixT ?x_h ?x_a ?_); (case x_h => walk_at "sqt"); (case x_a => first | with_unfolding_all rfl | assumption))
  | ((with_reducible refine' x_refL ?x_h ?_); (case x_h => walk_at "sq"))
  | ((with_reducible refine' x_refT ?x_h ?_); (case x_h => walk_at "sqt"))
  | ((with_reducible refine' x_gTup ?x_h ?x_a ?_); (case x_h => walk_at "sqt"); (case x_a => rfl))
  | ((with_reducible refine' x_tyL ?x_h ?_); (case x_h => walk_at "sq")))
local macro_rules | `(tactic| walk_at "set") => `(tactic| (first
  | (refine x_setO 0 (by assumption) (by with_unfolding_all rfl) (by with_unfolding_all rfl) ?_)
  | (refine x_setO 1 (by assumption) (by with_unfolding_all rfl) (by with_unfolding_all rfl) ?_)
  | (refine x_setO 2 (by assumption) (by with_unfolding_all rfl) (by with_unfolding_all rfl) ?_)
  | (refine x_setO 3 (by assumption) (by with_unfolding_all rfl) (by with_unfolding_all rfl) ?_)))
local macro_rules | `(tactic| walk_at "x") => `(tactic| repeat first | walk_at "x1" | walk_at "x2")
structure Bi (mg : Str → Option Value) : Prop where
  int_ : mg "int" = none
  len_ : mg "len" = none
  range_ : mg "range" = none
  str_ : mg "str" = none
  bool_ : mg "bool" = none
  list_ : mg "list" = none
  tuple_ : mg "tuple" = none
  dict_ : mg "dict" = none
  set_ : mg "set" = none
  isinstance_ : mg "isinstance" = none
  all_ : mg "all" = none
  any_ : mg "any" = none
  min_ : mg "min" = none
  max_ : mg "max" = none
  sorted_ : mg "sorted" = none
  enumerate_ : mg "enumerate" = none
  abs_ : mg "abs" = none
  sum_ : mg "sum" = none
  zip_ : mg "zip" = none
  reversed_ : mg "reversed" = none
  super_ : mg "super" = none

theorem ok_ints (l : List Int) : Enc.ok l = true := by
  show l.all (fun _ => true) = true
  simp
/-- a def of the text, its promise shown -/
structure Df (P : Program) (w : World) (K : PySem.W.Frag) (mg : Str → Option Value) (base : Heap) (x : Str) (k : Nat) (ps : List Str) (sp : L2.Sp) : Prop where
  ex : ∃ (f : Addr) (fd : FuncData), FnOk P w K mg base CX0 k f fd ps sp ∧ mg x = some (.ref f) ∧ PySem.W.keepIn K (.ref f) = true ∧ Binds K fd ps []
/-- the source of draws at p -/
def SrcZ (p : Addr) : List (Addr × HO) → Prop := fun N => ∃ (g l : Addr) (gs ls : List Int) (a t : Int),
  N = [(p, .lst [.ref g, .ref l, .int a, .int t]), (g, .lst (gs.map V.int)), (l, .lst (ls.map V.int))] ∧ gs.length ≤ 63 ∧ ls.length ≤ 63 ∧ ∀ x ∈ ls, 0 ≤ x ∧ x < 2147483647
theorem src_open {H I : Hp} {M : List (Addr × HO)} {p : Addr} (S : Own H I M (SrcZ p)) : ∃ (g l : Addr) (gs ls : List Int) (a t : Int),
    Own H I [(p, .lst [.ref g, .ref l, .int a, .int t]), (g, .lst (gs.map V.int)), (l, .lst (ls.map V.int))] (fun N => N = M) ∧ gs.length ≤ 63 ∧ ls.length ≤ 63 ∧ ∀ x ∈ ls, 0 ≤ x ∧ x < 2147483647 := by
  obtain ⟨N, ⟨g, l, gs, ls, a, t, rfl, h1, h2, h3⟩, S⟩ := S
  exact ⟨g, l, gs, ls, a, t, ⟨M, rfl, S.perm List.perm_append_comm⟩, h1, h2, h3⟩
theorem src_shut {H I : Hp} {M : List (Addr × HO)} {p g l : Addr} {gs ls : List Int} {a t : Int} (S : Own H I [(p, .lst [.ref g, .ref l, .int a, .int t]), (g, .lst (gs.map V.int)), (l, .lst (ls.map V.int))] (fun N => N = M))
    (h1 : gs.length ≤ 63) (h2 : ls.length ≤ 63) (h3 : ∀ x ∈ ls, 0 ≤ x ∧ x < 2147483647) : Own H I M (SrcZ p) := by
  obtain ⟨N, rfl, S⟩ := S
  exact ⟨_, ⟨g, l, gs, ls, a, t, rfl, h1, h2, h3⟩, S.perm List.perm_append_comm⟩
/-- a draw: any number from 0 below the limit -/
def spDraw : L2.Sp := fun vs H Q _ => ∃ (I : Hp) (M : List (Addr × HO)) (p : Addr) (lim : Int), vs = [.ref p, .int lim] ∧ Own H I M (SrcZ p) ∧ 0 < lim ∧ lim.natAbs < 2 ^ 200 ∧
  ∀ v H', 0 ≤ v → v < lim → Own H' I M (SrcZ p) → Q (.int v) H'
theorem cut_ints (ns : List Int) (lo hi : Option Int) : ∃ ms : List Int, cutV (ns.map V.int) lo hi = ms.map V.int ∧ ms.length ≤ ns.length := by
  unfold cutV
  rw [← List.map_drop, ← List.map_take]
  exact ⟨_, rfl, Nat.le_trans (List.length_take_le' ..) (by rw [List.length_drop]; omega)⟩
/-- the source of a script -/
def spSource (K : PySem.W.Frag) : L2.Sp := fun vs H Q _ => ∃ (I : Hp) (M : List (Addr × HO)) (a : Addr) (ns : List Int), vs = [.ref a] ∧ Own H I M Z0 ∧ SqL K I a (ns.map V.int) ∧ ns.length ≤ 63 ∧
  ∀ p H' I', Same I I' → Own H' I' M (SrcZ p) → Q (.ref p) H'
section
variable {P : Program} {w : World} {K : PySem.W.Frag} {mg : Str → Option Value} {base : Heap}
abbrev nDraw : List Str := ["_law_source_here", "_law_limit", "_law_greats", "_law_lessers", "_law_value", "_law_turn", "_law_primes", "_law_mixed"]
theorem scDraw : FnScope nDraw ["_law_source_here", "_law_limit"] (defScope sDraw) := ⟨rfl, rfl, rfl, by decide +kernel, rfl, by decide +kernel, by decide +kernel⟩
theorem ok_draw {f : Addr} {fd : FuncData} (F : Fun K "_law_draw" "_law_draw" sDraw f fd) (T : Bi mg) : FnOk P w K mg base CX0 1 f fd ["_law_source_here", "_law_limit"] spDraw := by
  refine F.ok scDraw (fun vs H Q E h => ?_) (fun cdv A outer s H vs Q E hr h => ?_)
  · obtain ⟨_, _, _, _, rfl, _⟩ := h
    rfl
  · obtain ⟨I, M, p, lim, rfl, S, l0, lz, k⟩ := h
    refine ⟨_, (pss_cons (ps_set (i := 2) scDraw.nd rfl (Or.inl rfl) (pe_ix (ix_listK (K := K)) (pv 0) pe_int (fun _ _ => rfl)))
    (pss_cons (ps_set (i := 3) scDraw.nd rfl (Or.inl rfl) (pe_ix (ix_listK (K := K)) (pv 0) pe_int (fun _ _ => rfl)))
    (C8.pss_cut (ps_if (PW.pt (pw_and (pt_cmpR op_eq (pe_ix (ix_listK (K := K)) (pv 0) pe_int (fun _ _ => rfl)) pe_int (nomark _)) (pw_and1 (pt_cmpR (neDK (K := K) hr.units) (pv 2) (pe_lst pa_nil) (nomark _)))))
      (pss_one (ps_asg (pe_bmK (K := K) PySem.F.plainAttrs_list PySem.F.slot_list_pop PySem.F.type_list_pop mt_popAt (pv 2) (pa_cons pe_int pa_nil)) (pg_sub (pv 0) pe_int set_list)))
      pss_nil)
    (pss_cons (ps_set (i := 4) scDraw.nd rfl (Or.inl rfl) (pe_op o_mod (pe_callTy c_int (by rfl) T.int_ (by decide +kernel) (pa_cons (pe_ix (ix_listK (K := K)) (pv 0) pe_int (fun _ _ => rfl)) pa_nil)) (pv 1)))
    (pss_cons (ps_asg (pe_op op_fdivW (pe_callTy c_int (by rfl) T.int_ (by decide +kernel) (pa_cons (pe_ix (ix_listK (K := K)) (pv 0) pe_int (fun _ _ => rfl)) pa_nil)) (pv 1)) (pg_sub (pv 0) pe_int set_list))
    (pss_cons (ps_set (i := 5) scDraw.nd rfl (Or.inl rfl) (pe_ix (ix_listK (K := K)) (pv 0) pe_int (fun _ _ => rfl)))
    (pss_cons (ps_asg (pe_op op_add (pv 5) pe_int) (pg_sub (pv 0) pe_int set_list))
    (C8.pss_cut (ps_if (pt_cmpR (neDK (K := K) hr.units) (pv 3) (pe_lst pa_nil) (nomark _))
      (pss_cons (ps_set (i := 6) scDraw.nd rfl (Or.inl rfl) (pe_lst (pa_cons pe_int (pa_cons pe_int (pa_cons pe_int (pa_cons pe_int (pa_cons pe_int (pa_cons pe_int (pa_cons pe_int (pa_cons pe_int pa_nil))))))))))
      (pss_cons (ps_set (i := 7) scDraw.nd rfl (Or.inl rfl) (pe_op o_mod (pe_callTy c_int (by rfl) T.int_ (by decide +kernel) (pa_cons (pe_op op_add (pe_op op_mul (pe_ix (ix_listK (K := K)) (pv 3) (pe_op o_mod (pv 5) (pe_callB (c_lenK (K := K)) (by rfl) T.len_ PySem.boot_len (pa_cons (pv 3) pa_nil))) (fun _ _ => rfl)) (pe_ix (ix_listK (K := K)) (pv 6) (pe_op o_mod (pv 5) pe_int) (fun _ _ => rfl))) (pe_op op_mul (pe_op op_add (pv 5) pe_int) pe_int)) pa_nil)) pe_int))
      (pss_one (ps_set (i := 4) scDraw.nd rfl (Or.inl rfl) (pe_op op_add (pv 4) (pe_op o_mod (pe_callTy c_int (by rfl) T.int_ (by decide +kernel) (pa_cons (pe_op op_add (pe_op op_mul (pv 7) (pv 7)) (pv 5)) pa_nil)) pe_int))))))
      pss_nil)
    (pss_one (ps_ret (pe_op o_mod (pv 4) (pv 1)))))))))))), ?_⟩
    try dsimp only [cxOf]
    obtain ⟨g, l, gs, ls, a, t, S, h1, h2, h3⟩ := src_open S
    walk_at "x"
    refine' x_cut (fun σ' H' => ∃ (gs' : List Int) (a' : Int), σ' = [some (.ref p), some (.int lim), some (.ref g), some (.ref l), none, none, none, none] ∧ gs'.length ≤ 63 ∧
      Own H' I [(p, .lst [.ref g, .ref l, .int a', .int t]), (g, .lst (gs'.map V.int)), (l, .lst (ls.map V.int))] (fun N => N = M)) ?_ ?_
    · walk_at "x"
      refine x_ifD (fun ha => ?_) (fun ha => ?_)
      · walk_at "x"
        refine x_lstI S (Nat.zero_le _) (fun q I1 H1 e1 hq S1 => ?_)
        refine x_neT (α := List Int) (x := gs) (y := []) (Rp.mkList (S1.get (i := 1) rfl) Rps.ints) (Rp.mkList (S1.imm _ _ hq) Rps.nil) (ok_ints _) (ok_ints _) ?_
        walk_at "x"
        refine x_ifD (fun hg => ?_) (fun hg => ?_)
        · walk_at "x"
          exact ⟨gs, a, rfl, h1, S1.down e1⟩
        · cases gs with
          | nil => exact absurd rfl hg
          | cons x r =>
            walk_at "x"
            refine x_popO 1 S1 rfl (by decide) (by decide) (n := 0) (by simp [seqIndex?]) rfl (fun H2 S2 => ?_)
            walk_at "x"
            refine x_setO 0 S2 rfl rfl (fun H3 S3 => ?_)
            exact ⟨r, x, rfl, by simp at h1; omega, S3.down e1⟩
      · walk_at "x"
        exact ⟨gs, a, rfl, h1, S⟩
    · rintro σ H1 ⟨gs1, a1, rfl, h4, S1⟩
      walk_at "x"
      refine x_setO 0 S1 rfl rfl (fun H2 S2 => ?_)
      walk_at "x"
      refine x_setO 0 S2 rfl rfl (fun H3 S3 => ?_)
      refine x_cut (fun σ' H' => ∃ (z : Int), ∃ v7 v6, 0 ≤ z ∧ σ' = [some (.ref p), some (.int lim), some (.ref g), some (.ref l), some (.int z), some (.int t), v6, v7] ∧
        Own H' I [(p, .lst [.ref g, .ref l, .int (a1 / lim), .int (t + 1)]), (g, .lst (gs1.map V.int)), (l, .lst (ls.map V.int))] (fun N => N = M)) ?_ ?_
      · walk_at "x"
        refine x_lstI S3 (Nat.zero_le _) (fun q I4 H4 e4 h4' S4 => ?_)
        have S4' : Own H4 I4 [(p, .lst [.ref g, .ref l, .int (a1 / lim), .int (t + 1)]), (g, .lst (gs1.map V.int)), (l, .lst (ls.map V.int))] (fun N => N = M) := S4
        refine x_neT (α := List Int) (x := ls) (y := []) (Rp.mkList (S4'.get (i := 2) rfl) Rps.ints) (Rp.mkList (S4.imm _ _ h4') Rps.nil) (ok_ints _) (ok_ints _) ?_
        walk_at "x"
        refine x_ifD (fun hl => ?_) (fun hl => ?_)
        · walk_at "x"
          exact ⟨a1 % lim, _, _, Int.emod_nonneg _ (by omega), rfl, S4'.down e4⟩
        · have hl0 : 0 < (ls.length : Int) := by
            cases ls with
            | nil => exact absurd rfl hl
            | cons _ _ => simp only [List.length_cons]; omega
          walk_at "x"
          refine x_lstI S4 (by decide) (fun q5 I5 H5 e5 hq5 S5 => ?_)
          have S5' : Own H5 I5 [(p, .lst [.ref g, .ref l, .int (a1 / lim), .int (t + 1)]), (g, .lst (gs1.map V.int)), (l, .lst (ls.map V.int))] (fun N => N = M) := S5
          walk_at "x"
          refine x_mod (by rw [List.length_map]; exact hl0) ?_
          have hl1 : 0 < ((ls.map V.int).length : Int) := by rw [List.length_map]; exact hl0
          obtain ⟨x, ea, _, xm⟩ := atI_map (f := V.int) (l := ls) (i := t % ((ls.map V.int).length : Int)) (Int.emod_nonneg _ (by omega)) (by have := Int.emod_lt_of_pos t hl1; rw [List.length_map] at this ⊢; exact this)
          obtain ⟨y, eb, _, ym⟩ := atI_map (f := V.int) (l := [48271, 69621, 16807, 39373, 62089, 40692, 52774, 31743]) (i := t % 8) (Int.emod_nonneg _ (by decide)) (Int.emod_lt_of_pos t (by decide))
          have hx := h3 x xm
          refine x_ixL (SqL.of (S5'.get (i := 2) rfl)) ea ?_
          walk_at "x"
          have hn := Int.emod_nonneg ((x * y + (t + 1) * 104729) % 2147483647 * ((x * y + (t + 1) * 104729) % 2147483647) + t) (show (2147483629 : Int) ≠ 0 by decide)
          have ha := Int.emod_nonneg a1 (show lim ≠ 0 by omega)
          exact ⟨_, _, _, Int.add_nonneg ha hn, rfl, (S5'.down e5).down e4⟩
      · rintro σ H1 ⟨z, v7, v6, z0, rfl, S4⟩
        walk_at "x"
        exact k _ _ (Int.emod_nonneg _ (by omega)) (Int.emod_lt_of_pos _ l0) (src_shut S4 h4 h2 h3)
abbrev nSource : List Str := ["_law_script", "_law_greats", "_law_lessers", "_law_cell"]
theorem scSource : FnScope nSource ["_law_script"] (defScope sSource) := ⟨rfl, rfl, rfl, by decide +kernel, rfl, by decide +kernel, by decide +kernel⟩
theorem ok_source {f : Addr} {fd : FuncData} (F : Fun K "_law_source" "_law_source" sSource f fd) (T : Bi mg) : FnOk P w K mg base CX0 1 f fd ["_law_script"] (spSource K) := by
  refine F.ok scSource (fun vs H Q E h => ?_) (fun cdv A outer s H vs Q E hr h => ?_)
  · obtain ⟨_, _, _, _, rfl, _⟩ := h
    rfl
  · obtain ⟨I, M, a, ns, rfl, S, hS, hn, k⟩ := h
    refine ⟨_, (pss_cons (ps_setLc (own := [("_law_cell", 3)]) (i := 1) rfl scSource.nd rfl rfl (sw_true rfl rfl rfl (by decide +kernel)) (pi_listK (K := K) (pe_slice (sl_listK (K := K)) (pv 0) po_none (po_some pe_int))) (blkOk_by (N := nSource) (sc := (defScope sSource)) (by decide +kernel)) (fun _ _ _ _ _ => (pg_name (i := 3) scSource.nd rfl (Or.inl rfl))) (fun _ _ _ _ _ => (pts_one (pt_cmpR op_ge (pv 3) (pe_op op_pow pe_int pe_int) (nomark _)))) (fun _ _ _ _ _ => (pe_callTy c_int (by rfl) T.int_ (by decide +kernel) (pa_cons (pv 3) pa_nil))))
    (pss_cons (ps_setLc (own := [("_law_cell", 3)]) (i := 2) rfl scSource.nd rfl rfl (sw_true rfl rfl rfl (by decide +kernel)) (pi_listK (K := K) (pe_slice (sl_listK (K := K)) (pv 0) po_none (po_some pe_int))) (blkOk_by (N := nSource) (sc := (defScope sSource)) (by decide +kernel)) (fun _ _ _ _ _ => (pg_name (i := 3) scSource.nd rfl (Or.inl rfl))) (fun _ _ _ _ _ => (pts_one (pt_cmpR op_lt (pv 3) (pe_op op_pow pe_int pe_int) (nomark _)))) (fun _ _ _ _ _ => (pe_op o_mod (pe_callTy c_int (by rfl) T.int_ (by decide +kernel) (pa_cons (pv 3) pa_nil)) pe_int)))
    (pss_one (ps_ret (pe_lst (pa_cons (pv 1) (pa_cons (pv 2) (pa_cons pe_int (pa_cons pe_int pa_nil))))))))), ?_⟩
    try dsimp only [cxOf]
    obtain ⟨ms, em, hm⟩ := cut_ints ns none (some 63)
    walk_at "x"
    refine x_slI S (Same.seq S.imm hS) (fun q1 I1 H1 e1 h1 S1 => ?_)
    rw [em] at h1
    refine x_refL (SqL.of (S1.imm _ _ h1)) ?_
    refine x_lcL (l := ms) S1 h1 Rps.ints (fun i acc _ => ∃ gs : List Int, acc = gs.map V.int ∧ gs.length ≤ i) ⟨[], rfl, Nat.le_refl _⟩ ?_ ?_
    · rintro i x v acc D I' H' hx e rv S' hl ⟨gs, rfl, hg⟩
      have hi := (List.getElem?_eq_some_iff.mp hx).1
      obtain rfl := rv.int
      walk_at "x"
      refine ⟨rfl, ?_⟩
      walk_at "x"
      refine x_ifD (fun _ => ?_) (fun _ => ?_)
      · walk_at "x"
        exact x_lcE e S' hl (Nat.lt_of_le_of_lt (show i ≤ 63 by omega) (by decide)) ⟨gs ++ [x], by simp, by simp; omega⟩
      · exact x_lcS e S' hl ⟨gs, rfl, by omega⟩
    · rintro g acc I2 H2 e2 S2 ⟨gs, rfl, hg⟩
      walk_at "x"
      refine x_slI S2 (Same.seq ((e1.trans e2).trans S2.imm) hS) (fun q3 I3 H3 e3 h3 S3 => ?_)
      rw [em] at h3
      refine x_refL (SqL.of (S3.imm _ _ h3)) ?_
      refine x_lcL (l := ms) S3 h3 Rps.ints (fun i acc _ => ∃ ls : List Int, acc = ls.map V.int ∧ ls.length ≤ i ∧ ∀ x ∈ ls, 0 ≤ x ∧ x < 2147483647) ⟨[], rfl, Nat.le_refl _, by simp⟩ ?_ ?_
      · rintro i x v acc D I' H' hx e rv S' hl ⟨ls, rfl, hg, hb⟩
        have hi := (List.getElem?_eq_some_iff.mp hx).1
        obtain rfl := rv.int
        walk_at "x"
        refine ⟨rfl, ?_⟩
        walk_at "x"
        refine x_ifD (fun _ => ?_) (fun _ => ?_)
        · walk_at "x"
          refine x_lcE e S' hl (Nat.lt_of_le_of_lt (show i ≤ 63 by omega) (by decide)) ⟨ls ++ [x % 2147483647], by simp, by simp; omega, fun y hy => ?_⟩
          rcases List.mem_append.mp hy with hy | hy
          · exact hb y hy
          · rw [List.mem_singleton.mp hy]
            exact ⟨Int.emod_nonneg _ (by decide), Int.emod_lt_of_pos _ (by decide)⟩
        · exact x_lcS e S' hl ⟨ls, rfl, by omega, hb⟩
      · rintro l acc I4 H4 e4 S4 ⟨ls, rfl, hl, hb⟩
        walk_at "x"
        refine x_lstM S4 (show 4 ≤ sizeLine by decide) (fun p H5 S5 => ?_)
        obtain ⟨N, rfl, S6⟩ := S5
        refine k p H5 I4 (((e1.trans e2).trans e3).trans e4) ⟨_, ⟨g, l, gs, ls, 0, 0, rfl, by omega, by omega, hb⟩, S6.perm ?_⟩
        rw [List.append_nil]
        exact (List.Perm.cons _ (List.Perm.swap _ _ _)).trans (List.perm_append_comm (l₁ := [(p, HO.lst [.ref g, .ref l, .int 0, .int 0]), (g, HO.lst (gs.map V.int)), (l, HO.lst (ls.map V.int))]) (l₂ := M))
end
theorem x_draw {H I : Hp} {M : List (Addr × HO)} {p : Addr} {lim : Int} {Q : VK} {E : XK} (S : Own H I M (SrcZ p)) (h0 : 0 < lim) (h1 : lim.natAbs < 2 ^ 200) (k : ∀ v H', 0 ≤ v → v < lim → Own H' I M (SrcZ p) → Q (.int v) H') :
    spDraw ([.ref p, .int lim] ++ []) H Q E := ⟨I, M, p, lim, rfl, S, h0, h1, k⟩

end Dz

/-! The program's cases. -/
namespace Dz
open PySem L2
local macro_rules | `(tactic| walk_at "sm") => `(tactic| first | exact Same.refl _ | assumption | (refine' Same.trans ?_ (by assumption); walk_at "sm"))
local macro_rules | `(tactic| walk_at "own") => `(tactic| first
  | exact upd_same
  | assumption
  | (apply Own.get (i := 0); assumption; with_unfolding_all rfl)
  | (apply Own.get (i := 1); assumption; with_unfolding_all rfl)
  | (apply Own.get (i := 2); assumption; with_unfolding_all rfl)
  | (apply Own.get (i := 3); assumption; with_unfolding_all rfl)
  | (apply Own.get (i := 4); assumption; with_unfolding_all rfl)
  | (apply Own.get (i := 5); assumption; with_unfolding_all rfl))
local macro_rules | `(tactic| walk_at "fix") => `(tactic| first
  | assumption
  | (apply Own.imm; assumption; assumption)
  | (apply Own.imm; assumption; apply (show ∀ {I J : Hp}, Same I J → ∀ {a : Addr} {o : HO}, I a = some o → J a = some o from fun s _ _ e => s _ _ e); rotate_left; assumption; walk_at "sm"))
local macro_rules | `(tactic| walk_at "sq") => `(tactic| first
  | (apply SqL.of; walk_at "own")
  | (apply SqL.of; walk_at "fix")
  | (apply Same.seq; (apply Own.imm; assumption); first | assumption | (apply Same.seq; rotate_left; assumption; walk_at "sm")))
local macro_rules | `(tactic| walk_at "sqt") => `(tactic| first
  | (apply SqT.of; walk_at "own")
  | (apply SqT.of; walk_at "fix")
  | (apply Same.seqT; (apply Own.imm; assumption); first | assumption | (apply Same.seqT; rotate_left; assumption; walk_at "sm")))
local macro_rules | `(tactic| walk_at "ar") => `(tactic| first | assumption | omega | decide | exact wide_div (by assumption) (by assumption) (by decide) (by decide) | (constructor <;> omega) | (left; constructor <;> omega) | (right; constructor <;> omega))
local macro_rules | `(tactic| walk_at "x1") => `(tactic| with_reducible first
  | refine' x_seq ?_
  | refine' x_asg ?_
  | refine' x_name ?_
  | (refine' x_var ?x_h ?_; (case x_h => with_unfolding_all rfl))
  | refine' x_c ?_
  | refine' x_op ?_
  | refine' x_cons ?_
  | refine' x_nil ?_
  | refine' x_cb ?_
  | refine' x_ifS ?_
  | refine' x_test ?_
  | refine' x_and ?_
  | refine' x_or ?_
  | refine' x_not ?_
  | refine' x_bl ?_
  | refine' x_rI0 ?_
  | refine' x_eqI ?_
  | refine' x_neI ?_
  | refine' x_eqS ?_
  | refine' x_neS ?_
  | refine' x_eqB ?_
  | refine' x_neB ?_
  | refine' x_intI ?_
  | refine' x_intB ?_
  | refine' x_gSub ?_
  | refine' x_gCons ?_
  | refine' x_gNil ?_
  | refine' x_ret ?_
  | refine' x_retN ?_
  | refine' x_next ?_
  | refine' x_drop ?_
  | refine' x_call ?_
  | refine' x_sl ?_
  | refine' x_noPart ?_
  | refine' x_part ?_
  | refine' x_intE ?_
  | refine' x_tup ?_
  | refine' x_lst ?_
  | refine' x_iList ?_
  | refine' x_iTup ?_
  | refine' x_range1 ?_
  | refine' x_tdget ?_
  | refine' x_tdin ?_
  | refine' x_tdnotin ?_
  | refine' x_sdput ?_
  | refine' x_trev ?_
  | refine' x_for ?_
  | refine' x_lc ?_
  | refine' x_yes ?_
  | refine' x_un ?_
  | refine' x_bm ?_
  | refine' x_bm0 ?_
  | refine' x_tB ?_
  | refine' x_notV ?_
  | refine' x_andV ?_
  | refine' x_orV ?_
  | refine' x_ifE ?_
  | refine' x_isN ?_
  | refine' x_notN ?_
  | refine' x_inSg ?_
  | refine' x_notInSg ?_
  | refine' x_min2 ?_
  | refine' x_tyS ?_
  | refine' x_ifTrue ?_
  | refine' x_ifFalse ?_
  | refine' x_ifN ?_)
local macro_rules | `(tactic| walk_at "x2") => `(tactic| first
  | ((with_reducible refine' x_mod ?x_h ?_); (case x_h => walk_at "ar"))
  | ((with_reducible refine' x_rI ?x_h ?_); (case x_h => walk_at "ar"))
  | ((with_reducible refine' x_lenL ?x_h ?_); (case x_h => walk_at "sq"))
  | ((with_reducible refine' x_lenT ?x_h ?_); (case x_h => walk_at "sqt"))
  | ((with_reducible refine' x_ixL ?x_h ?x_a ?_); (case x_h => walk_at "sq"); (case x_a => first | with_unfolding_all rfl | assumption))
  | ((with_reducible refine' x_ixT ?x_h ?x_a ?_); (case x_h => walk_at "sqt"); (case x_a => first | with_unfolding_all rfl | assumption))
  | ((with_reducible refine' x_refL ?x_h ?_); (case x_h => walk_at "sq"))
  | ((with_reducible refine' x_refT ?x_h ?_); (case x_h => walk_at "sqt"))
  | ((with_reducible refine' x_gTup ?x_h ?x_a ?_); (case x_h => walk_at "sqt"); (case x_a => rfl))
  | ((with_reducible refine' x_tyL ?x_h ?_); (case x_h => walk_at "sq")))
local macro_rules | `(tactic| walk_at "set") => `(tactic| (first
  | (refine x_setO 0 (by assumption) (by with_unfolding_all rfl) (by with_unfolding_all rfl) ?_)
  | (refine x_setO 1 (by assumption) (by with_unfolding_all rfl) (by with_unfolding_all rfl) ?_)
  | (refine x_setO 2 (by assumption) (by with_unfolding_all rfl) (by with_unfolding_all rfl) ?_)
  | (refine x_setO 3 (by assumption) (by with_unfolding_all rfl) (by with_unfolding_all rfl) ?_)))
local macro_rules | `(tactic| walk_at "x") => `(tactic| repeat first | walk_at "x1" | walk_at "x2")
local macro_rules | `(tactic| walk_at "dr") => `(tactic| refine' x_draw (by assumption) (by decide) (by decide) ?_)
local macro_rules | `(tactic| walk_at "y1") => `(tactic| with_reducible first
  | refine' x_chain ?_
  | refine' x_iS ?_
  | refine' x_strE ?_)
local macro_rules | `(tactic| walk_at "y2") => `(tactic| first
  | ((with_reducible refine' x_lenS ?x_h ?_); (case x_h => first | assumption | omega)))
local macro_rules | `(tactic| walk_at "x") => `(tactic| repeat first | walk_at "x1" | walk_at "y1" | walk_at "x2" | walk_at "y2")
local macro_rules | `(tactic| walk_at "z1") => `(tactic| with_reducible first
  | refine' x_fld ?_
  | refine' x_sFld ?_
  | refine' x_fmt ?_
  | refine' x_make ?_
  | refine' x_makeN ?_
  | refine' x_js ?_
  | refine' x_js0 ?_
  | refine' x_ifE ?_)
local macro_rules | `(tactic| walk_at "x") => `(tactic| repeat first | walk_at "x1" | walk_at "y1" | walk_at "z1" | walk_at "x2" | walk_at "y2")
abbrev sCInit : Stmt := (inClass (PySem.Challenge.pw_everydoor_k21_cases.main.body.getD 2 (.Pass ⟨0, 0, 0, 0⟩)) 0)
abbrev sCEq : Stmt := (inClass (PySem.Challenge.pw_everydoor_k21_cases.main.body.getD 2 (.Pass ⟨0, 0, 0, 0⟩)) 2)
abbrev sCLen : Stmt := (inClass (PySem.Challenge.pw_everydoor_k21_cases.main.body.getD 2 (.Pass ⟨0, 0, 0, 0⟩)) 3)
abbrev sCStr : Stmt := (inClass (PySem.Challenge.pw_everydoor_k21_cases.main.body.getD 2 (.Pass ⟨0, 0, 0, 0⟩)) 4)
abbrev nCInit : List Str := ["self", "door", "states", "own", "marks", "held"]
theorem scCInit : FnScope nCInit ["self", "door", "states", "own"] (defScope sCInit) := ⟨rfl, rfl, rfl, by decide +kernel, rfl, by decide +kernel, by decide +kernel⟩
abbrev nCEq : List Str := ["self", "other"]
theorem scCEq : FnScope nCEq ["self", "other"] (defScope sCEq) := ⟨rfl, rfl, rfl, by decide +kernel, rfl, by decide +kernel, by decide +kernel⟩
abbrev nCLen : List Str := ["self"]
theorem scCLen : FnScope nCLen ["self"] (defScope sCLen) := ⟨rfl, rfl, rfl, by decide +kernel, rfl, by decide +kernel, by decide +kernel⟩
abbrev nCStr : List Str := ["self", "words", "marks", "held"]
theorem scCStr : FnScope nCStr ["self"] (defScope sCStr) := ⟨rfl, rfl, rfl, by decide +kernel, rfl, by decide +kernel, by decide +kernel⟩
/-- a row that is passed: a tuple or a list -/
inductive RowE where
  | t (m : Int) (h : Bool)
  | l (m : Int) (h : Bool)
  deriving DecidableEq
def RowE.val : RowE → Int × Bool
  | .t m h => (m, h)
  | .l m h => (m, h)
def RowE.py : RowE → PyData
  | .t m h => .tuple [.int m, .bool h]
  | .l m h => .list [.int m, .bool h]
instance : Enc RowE := ⟨RowE.py, 1, fun _ => true, fun r _ => by cases r <;> rfl, fun r => by cases r <;> exact Nat.le_refl _⟩
theorem RowE.at {K : PySem.W.Frag} {I : Hp} {v : V} {r : RowE} (h : Rp K I v r) : ∃ a, v = .ref a ∧ (SqT K I a [.int r.val.1, .bl r.val.2] ∨ SqL K I a [.int r.val.1, .bl r.val.2]) := by
  cases r with
  | t m b =>
    have h : Dt K I v (.tuple [.int m, .bool b]) := h
    cases h with
    | tup s r =>
      cases r with
      | cons r1 r =>
        cases r1
        cases r with
        | cons r2 r =>
          cases r2
          cases r
          exact ⟨_, rfl, .inl s⟩
  | l m b =>
    have h : Dt K I v (.list [.int m, .bool b]) := h
    cases h with
    | lst s r =>
      cases r with
      | cons r1 r =>
        cases r1
        cases r with
        | cons r2 r =>
          cases r2
          cases r
          exact ⟨_, rfl, .inr (SqL.of s)⟩
theorem RowE.mkT {K : PySem.W.Frag} {I : Hp} {a : Addr} {m : Int} {b : Bool} (h : SqT K I a [.int m, .bl b]) : Rp K I (.ref a) (RowE.t m b) := Dt.tup h (.cons (.int _) (.cons (.bl _) .nil))
theorem RowE.mkL {K : PySem.W.Frag} {I : Hp} {a : Addr} {m : Int} {b : Bool} (h : I a = some (.lst [.int m, .bl b])) : Rp K I (.ref a) (RowE.l m b) := Dt.lst h (.cons (.int _) (.cons (.bl _) .nil))
/-- the class Case as the top has made it -/
structure ClC (K : PySem.W.Frag) (C : Addr) : Prop where
  cl : Cls K C
  nd : NoAttr K C "door"
  ns : NoAttr K C "states"
  no : NoAttr K C "own"
  ha : PySem.W.findIn K (.ref C) "__class__" = some (some (.builtin "object.__class__"))
  hn : PySem.W.specialIn K (.builtin "object.__class__") "__get__" = some (some (.builtin "getset_descriptor.__get__"))
  htk : PySem.W.takesIn K (.builtin "object.__class__") = some true
  hm : PySem.W.mroIn K C (.type "object") = some true
  c1 : (PySem.W.clsIn K C).isSome = true
  c2 : PySem.W.typeIn K (.ref C) = some (.type "type")
def cf (w : Str) (t : Addr) (b : Bool) : List (Str × V) := [("door", .str w), ("states", .ref t), ("own", .bl b)]
theorem cf_door {w : Str} {t : Addr} {b : Bool} : (cf w t b).lookup ("door" : Str) = some (.str w) := by with_unfolding_all rfl
theorem cf_states {w : Str} {t : Addr} {b : Bool} : (cf w t b).lookup ("states" : Str) = some (.ref t) := by with_unfolding_all rfl
theorem cf_own {w : Str} {t : Addr} {b : Bool} : (cf w t b).lookup ("own" : Str) = some (.bl b) := by with_unfolding_all rfl
theorem putF_1 {w : V} : putF "door" w [] = [(("door" : Str), w)] := rfl
theorem putF_2 {w t : V} : putF "states" t [(("door" : Str), w)] = [(("door" : Str), w), ("states", t)] := by with_unfolding_all rfl
theorem putF_3 {w t b : V} : putF "own" b [(("door" : Str), w), ("states", t)] = [(("door" : Str), w), ("states", t), ("own", b)] := by with_unfolding_all rfl
/-- a case stands at v -/
def CaseAt (K : PySem.W.Frag) (C : Addr) (H : Hp) (v : V) (w : Str) (st : List (Int × Bool)) (b : Bool) : Prop := ∃ p dx t, v = .ref p ∧ H p = some (.ins C dx (cf w t b)) ∧ Rp K H (.ref t) (Tu.mk st)
theorem CaseAt.same {K : PySem.W.Frag} {C : Addr} {H H' : Hp} {v : V} {w : Str} {st : List (Int × Bool)} {b : Bool} (e : Same H H') (h : CaseAt K C H v w st b) : CaseAt K C H' v w st b := by
  obtain ⟨p, dx, t, rfl, h, r⟩ := h
  exact ⟨p, dx, t, rfl, e _ _ h, r.same e⟩
theorem ClC.ty {K : PySem.W.Frag} {C p dx : Addr} {H : Hp} {fs : List (Str × V)} (T : ClC K C) (h : H p = some (.ins C dx fs)) : TyX K H (.ref p) (.ref C) := .base (.ins h T.cl T.ha T.hn T.htk T.hm)
theorem ClC.kit {K : PySem.W.Frag} {C : Addr} (T : ClC K C) : PySem.W.kitOne K (.ref C) (.ref C) = some true := by
  unfold PySem.W.kitOne
  rw [if_pos (by simp)]
theorem ClC.kitN {K : PySem.W.Frag} {C : Addr} {n : String} (T : ClC K C) (h : PySem.W.subIn K (.type n) (.ref C) = some false) : PySem.W.kitOne K (.type n) (.ref C) = some false := by
  unfold PySem.W.kitOne PySem.W.kitCls
  rw [if_neg (by simp)]
  show (if ((PySem.W.clsIn K C).isSome && PySem.W.typeIn K (.ref C) == some (.type "type")) = true then PySem.W.subIn K (.type n) (.ref C) else none) = _
  rw [T.c1, T.c2, if_pos (by simp), h]
theorem map_succ {α β : Type} {l : List α} {i : Nat} {x : α} (f : α → β) (h : l[i]? = some x) : (l.take (i + 1)).map f = (l.take i).map f ++ [f x] := by
  rw [List.take_add_one, h, Option.toList_some, List.map_append, List.map_singleton]
theorem map_all {α β : Type} (l : List α) (f : α → β) : (l.take l.length).map f = l.map f := by rw [List.take_length]
theorem sz {n : Nat} (h : n ≤ 100000) : n ≤ sizeLine := Nat.le_trans h (by decide)
theorem szl {n : Nat} (h : n < 100000) : n < sizeLine := Nat.lt_of_lt_of_le h (by decide)
theorem ok_st (st : List (Int × Bool)) : Enc.ok (Tu.mk st) = true := by
  show st.all (fun p => (true && true)) = true
  simp
section
variable {P : Program} {w : World} {K : PySem.W.Frag} {mg : Str → Option Value} {base : Heap}
def spCInit (K : PySem.W.Frag) (C : Addr) : L2.Sp := fun vs H Q _ => ∃ (I : Hp) (M : List (Addr × HO)) (Z : List (Addr × HO) → Prop) (p dx r : Addr) (w : Str) (b : Bool) (xs : List V) (rows : List RowE),
  vs = [.ref p, .str w, .ref r, .bl b] ∧ Own H I ((p, .ins C dx []) :: M) Z ∧ (∀ N I' H', Same I I' → Own H' I' (N ++ M) Z → SqL K H' r xs) ∧ Rps K I xs rows ∧ rows.length ≤ 8 ∧
  ∀ H' I', Same I I' → CaseAt K C I' (.ref p) w (rows.map RowE.val) b → Own H' I' M Z → Q .non H'
theorem ok_Case_init {f C : Addr} {fd : FuncData} (F : FunD K "__init__" "Case.__init__" (defArgs sCInit) (defBody sCInit) (defScope sCInit) [.bl false] [] f fd) (T : Bi mg) (TC : ClC K C) : FnOk P w K mg base CX0 1 f fd ["self", "door", "states", "own"] (spCInit K C) := by
  refine F.ok scCInit (fun vs H Q E h => ?_) (fun cdv A outer s H vs Q E hr h => ?_)
  · obtain ⟨_, _, _, _, _, _, _, _, _, _, rfl, _⟩ := h
    rfl
  · obtain ⟨I, M, Z, p, dx, r, w, b, xs, rows, rfl, S, hx, rx, hl, k⟩ := h
    refine ⟨_, (pss_cons (ps_fld (pv 0) (pv 1) rfl)
    (pss_cons (ps_fld (pv 0) (pe_callTy (c_tupOfK (K := K)) (by rfl) T.tuple_ (by decide +kernel) (pa_cons (pe_lc (own := [("marks", 4), ("held", 5)]) rfl scCInit.nd (pi_listK (K := K) (pv 2)) (blkOk_by (N := nCInit) (sc := (defScope sCInit)) (by decide +kernel)) (fun _ _ _ _ _ => (pg_seqK (K := K) (m := 2) rfl (pgs_cons (pg_name (i := 4) scCInit.nd rfl (Or.inl rfl)) (pgs_cons (pg_name (i := 5) scCInit.nd rfl (Or.inl rfl)) pgs_nil)))) (fun _ _ _ _ _ => pts_nil) (fun _ _ _ _ _ => (pe_tup (pa_cons (pv 4) (pa_cons (pv 5) pa_nil))))) pa_nil)) rfl)
    (pss_one (ps_fld (pv 0) (pv 3) rfl)))), ?_⟩
    try dsimp only [cxOf]
    walk_at "x"
    refine x_sFldO 0 S rfl TC.cl TC.nd (by show 0 < 1000; decide) (fun H1 S1 => ?_)
    rw [putF_1] at S1
    walk_at "x"
    refine x_refL (hx [_] _ _ (Same.refl _) S1) ?_
    refine x_lcO (l := rows) S1 (fun D acc I2 H2 e2 S2 => hx [_, _] _ _ e2 S2) rx (fun i acc I2 => Rps K I2 acc ((rows.take i).map RowE.val)) Rps.nil ?_ ?_
    · rintro i x v acc D I2 H2 hx2 e2 rv S2 hl2 ra
      have hi2 := (List.getElem?_eq_some_iff.mp hx2).1
      obtain ⟨a, rfl, hv⟩ := RowE.at rv
      have go : ∀ {R : L2.St → Hp → Prop} {gs : TGs} {σ : L2.St}, gs [.int x.val.1, .bl x.val.2] σ H2 R → gSeq K 2 gs (.ref a) σ H2 R := fun {R gs σ} g => by
        rcases hv with hv | hv
        · exact x_gSeqT (Same.seqT S2.imm hv) rfl g
        · exact x_gSeqL (Same.seq S2.imm hv) rfl g
      refine go ?_
      walk_at "x"
      refine ⟨rfl, ?_⟩
      walk_at "x"
      refine x_tupI S2 (show 2 ≤ sizeLine by decide) (fun t3 I3 H3 e3 h3 S3 => ?_)
      refine x_lcE (e2.trans e3) S3 hl2 (Nat.lt_of_lt_of_le (show i < 9 by omega) (by decide)) ?_
      rw [map_succ _ hx2]
      exact (ra.same e3).app (Rps.cons (Rp.mkPair (SqT.of h3) (Rp.ofInt _) (Rp.ofBool _)) Rps.nil)
    · rintro D acc I2 H2 e2 S2 ra
      rw [map_all] at ra
      walk_at "x"
      refine x_tupOfL S2 (SqL.of (S2.get (i := 0) rfl)) (fun t I3 H3 e3 h3 S3 => ?_)
      walk_at "x"
      refine x_sFldO 1 S3 rfl TC.cl TC.ns (by show 1 < 1000; decide) (fun H4 S4 => ?_)
      rw [putF_2] at S4
      walk_at "x"
      refine x_sFldO 1 S4 rfl TC.cl TC.no (by show 2 < 1000; decide) (fun H5 S5 => ?_)
      rw [putF_3] at S5
      have S6 := S5.drop 0
      obtain ⟨I6, e6, h6, S6⟩ := S6.still 0 rfl
      exact k _ _ ((e2.trans e3).trans e6) ⟨p, dx, t, rfl, h6, (Rp.mkTu (xs := rows.map RowE.val) (SqT.of h3) (ra.same e3)).same e6⟩ S6
/-- own ==: both are cases and equal -/
def spCEq (K : PySem.W.Frag) (C : Addr) : L2.Sp := fun vs H Q _ => ∃ (x y : V) (w : Str) (st : List (Int × Bool)) (b : Bool), vs = [x, y] ∧ CaseAt K C H x w st b ∧
  ((∃ w' st' b', CaseAt K C H y w' st' b' ∧ Q (.bl (decide (w = w' ∧ st = st' ∧ b = b'))) H) ∨ ∃ t, TyX K H y t ∧ PySem.W.kitOne K t (.ref C) = some false ∧ Q (.bl false) H)
theorem ok_Case_eq {f C : Addr} {fd : FuncData} (F : Fun K "__eq__" "Case.__eq__" sCEq f fd) (T : Bi mg) (TC : ClC K C) (v_Case : mg "Case" = some (.ref C)) : FnOk P w K mg base CX0 1 f fd ["self", "other"] (spCEq K C) := by
  have r_Case : RelV (.ref C) (.ref C) := rfl
  refine F.ok scCEq (fun vs H Q E h => ?_) (fun cdv A outer s H vs Q E hr h => ?_)
  · obtain ⟨_, _, _, _, _, rfl, _⟩ := h
    rfl
  · obtain ⟨x, y, w, st, b, rfl, ⟨p, dx, t, rfl, hp, rt⟩, h⟩ := h
    refine ⟨_, (pss_one (ps_ret (pe_and (pe_callB (c_isiK (K := K)) (by rfl) T.isinstance_ (by decide +kernel) (pa_cons (pv 1) (pa_cons (pe_glob (by rfl) v_Case r_Case) pa_nil))) (pe_and (pe_cmpR op_eq (pe_fldK (K := K) (pv 0)) (pe_fldK (K := K) (pv 1)) (nomark _)) (pe_and (pe_cmpR (eqDK (K := K) hr.units) (pe_fldK (K := K) (pv 0)) (pe_fldK (K := K) (pv 1)) (nomark _)) (pe_one (pe_cmpR op_eq (pe_fldK (K := K) (pv 0)) (pe_fldK (K := K) (pv 1)) (nomark _)))))))), ?_⟩
    try dsimp only [cxOf]
    walk_at "x"
    rcases h with ⟨w', st', b', ⟨q, dy, u, rfl, hq, ru⟩, k⟩ | ⟨t2, ty, kt, k⟩
    · refine x_isi (.own C) (TC.ty hq) TC.kit ?_
      walk_at "x"
      refine x_fldI hp TC.cl TC.nd cf_door ?_
      walk_at "x"
      refine x_fldI hq TC.cl TC.nd cf_door ?_
      walk_at "x"
      refine x_ifD (fun ew => ?_) (fun ew => ?_)
      · walk_at "x"
        refine x_fldI hp TC.cl TC.ns cf_states ?_
        walk_at "x"
        refine x_fldI hq TC.cl TC.ns cf_states ?_
        refine x_eqT (α := Tu (Int × Bool)) rt ru (ok_st _) (ok_st _) ?_
        walk_at "x"
        refine x_ifD (fun es => ?_) (fun es => ?_)
        · walk_at "x"
          refine x_fldI hp TC.cl TC.no cf_own ?_
          walk_at "x"
          refine x_fldI hq TC.cl TC.no cf_own ?_
          walk_at "x"
          have e : decide (w = w' ∧ st = st' ∧ b = b') = decide (b = b') := by
            have es : st = st' := by injection es
            rw [ew, es]
            simp
          rw [← e]
          exact k
        · have e : decide (w = w' ∧ st = st' ∧ b = b') = false := decide_eq_false fun h => es (by rw [h.2.1])
          rw [← e]
          exact k
      · have e : decide (w = w' ∧ st = st' ∧ b = b') = false := decide_eq_false fun h => ew h.1
        rw [← e]
        exact k
    · refine x_isi (.own C) ty kt ?_
      walk_at "x"
      exact k
/-- own len -/
def spCLen (K : PySem.W.Frag) (C : Addr) : L2.Sp := fun vs H Q _ => ∃ (x : V) (w : Str) (st : List (Int × Bool)) (b : Bool), vs = [x] ∧ CaseAt K C H x w st b ∧ Q (.int st.length) H
theorem ok_Case_len {f C : Addr} {fd : FuncData} (F : Fun K "__len__" "Case.__len__" sCLen f fd) (T : Bi mg) (TC : ClC K C) : FnOk P w K mg base CX0 1 f fd ["self"] (spCLen K C) := by
  refine F.ok scCLen (fun vs H Q E h => ?_) (fun cdv A outer s H vs Q E hr h => ?_)
  · obtain ⟨_, _, _, _, rfl, _⟩ := h
    rfl
  · obtain ⟨x, w, st, b, rfl, ⟨p, dx, t, rfl, hp, rt⟩, k⟩ := h
    refine ⟨_, (pss_one (ps_ret (pe_callB (c_lenK (K := K)) (by rfl) T.len_ PySem.boot_len (pa_cons (pe_fldK (K := K) (pv 0)) pa_nil)))), ?_⟩
    try dsimp only [cxOf]
    walk_at "x"
    refine x_fldI hp TC.cl TC.ns cf_states ?_
    obtain ⟨t', vs, e, ht, rs⟩ := rt.tu
    cases e
    walk_at "x"
    refine x_lenT ht ?_
    rw [rs.len]
    exact k
/-- an item in the text of a case -/
def itemText (x : Int × Bool) : Str := if x.2 = true then Str.ofString (toString x.1) ++ "h" else Str.ofString (toString x.1)
def ownText (b : Bool) : List Str := if b = true then ["own"] else []
def caseText (w : Str) (st : List (Int × Bool)) (b : Bool) : Str := Txt.join " " (w :: (ownText b ++ st.map itemText))
theorem item_len {x : Int × Bool} (h0 : 0 ≤ x.1) (h1 : x.1 < 10 ^ 40) : (itemText x).length ≤ 41 := by
  have h := PyProof.Rows.toString_length_le h0 (k := 40) (by decide) h1
  unfold itemText
  split
  · rw [len_app]
    have e : ("h" : Str).length = 1 := by decide +kernel
    omega
  · omega
theorem log_ok {i : Int} (h0 : 0 ≤ i) (h1 : i < 10 ^ 40) : i.natAbs.log2 < 1920 := by
  by_cases z : i.natAbs = 0
  · rw [z]; decide
  · refine (Nat.log2_lt z).mpr ?_
    have : i.natAbs < 10 ^ 40 := by omega
    exact Nat.lt_of_lt_of_le this (by decide)
theorem own_text (b : Bool) : (ownText b).length ≤ 1 := by cases b <;> decide
def spCStr (K : PySem.W.Frag) (C : Addr) : L2.Sp := fun vs H Q _ => ∃ (I : Hp) (M : List (Addr × HO)) (Z : List (Addr × HO) → Prop) (x : V) (w : Str) (st : List (Int × Bool)) (b : Bool), vs = [x] ∧ CaseAt K C I x w st b ∧ Own H I M Z ∧ w.length ≤ 1000 ∧ st.length ≤ 8 ∧ (∀ y ∈ st, 0 ≤ y.1 ∧ y.1 < 10 ^ 40) ∧
  ∀ H' I', Same I I' → Own H' I' M Z → Q (.str (caseText w st b)) H'
theorem ok_Case_str {f C : Addr} {fd : FuncData} (F : Fun K "__str__" "Case.__str__" sCStr f fd) (T : Bi mg) (TC : ClC K C) : FnOk P w K mg base CX0 1 f fd ["self"] (spCStr K C) := by
  refine F.ok scCStr (fun vs H Q E h => ?_) (fun cdv A outer s H vs Q E hr h => ?_)
  · obtain ⟨_, _, _, _, _, _, _, rfl, _⟩ := h
    rfl
  · obtain ⟨I, M, Z, x, w, st, b, rfl, ⟨p, dx, t, rfl, hp, rt⟩, S, hw, hl, hb, k⟩ := h
    refine ⟨_, (pss_cons (ps_set (i := 1) scCStr.nd rfl (Or.inl rfl) (pe_lst (pa_cons (pe_fldK (K := K) (pv 0)) pa_nil)))
    (C8.pss_cut (ps_if (pt_val (pe_fldK (K := K) (pv 0)))
      (pss_one (ps_expr (pe_bmK (K := K) PySem.F.plainAttrs_list PySem.F.slot_list_append PySem.F.type_list_append mt_append (pv 1) (pa_cons pe_str pa_nil))))
      pss_nil)
    (pss_cons (ps_for PassesOwn.never rfl (pi_tupK (K := K) (pe_fldK (K := K) (pv 0))) (pg_tupK (K := K) (n := 2) rfl (pgs_cons (pg_name (i := 2) scCStr.nd rfl (Or.inl rfl)) (pgs_cons (pg_name (i := 3) scCStr.nd rfl (Or.inl rfl)) pgs_nil)))
      (pss_one (ps_expr (pe_bmK (K := K) PySem.F.plainAttrs_list PySem.F.slot_list_append PySem.F.type_list_append mt_append (pv 1) (pa_cons (pe_ifExp (pt_val (pv 3)) (pe_joined (PJ.cons (pe_fmt (pv 2)) (PJ.cons pe_str PJ.nil))) (pe_joined1 (pe_fmt (pv 2)))) pa_nil)))))
    (pss_one (ps_ret (pe_bmK (K := K) PySem.F.plainAttrs_str PySem.F.slot_str_join PySem.F.type_str_join (m_joinK (K := K)) pe_str (pa_cons (pv 1) pa_nil))))))), ?_⟩
    try dsimp only [cxOf]
    obtain ⟨t', vs, e, ht, rs⟩ := rt.tu
    cases e
    walk_at "x"
    refine x_fldI (S.imm _ _ hp) TC.cl TC.nd cf_door ?_
    walk_at "x"
    refine x_lstM S (show 1 ≤ sizeLine by decide) (fun q H1 S1 => ?_)
    refine x_cut (fun σ' H' => σ' = [some (.ref p), some (.ref q), none, none] ∧ Own H' I ((q, .lst ((w :: ownText b).map V.str)) :: M) Z) ?_ ?_
    · walk_at "x"
      refine x_fldI (S1.imm _ _ hp) TC.cl TC.no cf_own ?_
      walk_at "x"
      cases b with
      | true =>
        walk_at "x"
        refine x_appO 0 S1 rfl (szl (by simp)) (fun H2 S2 => ?_)
        exact ⟨rfl, S2⟩
      | false =>
        walk_at "x"
        exact ⟨rfl, S1⟩
    · rintro σ1 H1 ⟨rfl, S1⟩
      walk_at "x"
      refine x_fldI (S1.imm _ _ hp) TC.cl TC.ns cf_states ?_
      walk_at "x"
      refine x_forT (l := st) S1 ht rs (fun i σ' I' M' => ∃ v2 v3, σ' = [some (.ref p), some (.ref q), v2, v3] ∧ M' = (q, .lst ((w :: (ownText b ++ (st.take i).map itemText)).map V.str)) :: M) ?_ ?_ ?_
      · exact ⟨_, _, rfl, by simp⟩
      · rintro i y v σ' I' M' H' hy e ry S' ⟨v2, v3, rfl, rfl⟩
        have hi := (List.getElem?_eq_some_iff.mp hy).1
        have hyb := hb y (List.mem_of_getElem? hy)
        obtain ⟨a, u1, u2, rfl, sa, r1, r2⟩ := ry.pair
        obtain rfl := r1.int
        obtain rfl := r2.bool
        refine x_gTup (Same.seqT S'.imm sa) rfl ?_
        have fin : ∀ H2, Own H2 I' ((q, .lst ((w :: (ownText b ++ (st.take i).map itemText)).map V.str ++ [.str (itemText y)])) :: M) Z → Nx I Z (fun σ' I' M' => ∃ v2 v3, σ' = [some (.ref p), some (.ref q), v2, v3] ∧ M' = (q, .lst ((w :: (ownText b ++ (st.take (i + 1)).map itemText)).map V.str)) :: M) [some (.ref p), some (.ref q), some (.int y.1), some (.bl y.2)] H2 := fun H2 S2 => by
          refine ⟨I', _, e, S2, _, _, rfl, ?_⟩
          rw [map_succ _ hy]
          simp
        have hz : ((w :: (ownText b ++ (st.take i).map itemText)).map V.str).length < sizeLine := szl (by
          have := own_text b
          rw [List.length_map, List.length_cons, List.length_append, List.length_map, List.length_take]
          omega)
        have ht40 := PyProof.Rows.toString_length_le hyb.1 (k := 40) (by decide) hyb.2
        walk_at "x"
        cases e2 : y.2 with
        | true =>
          have ei : itemText y = Str.ofString (toString y.1) ++ "h" := by unfold itemText; rw [e2]; rfl
          have eh : ("h" : Str).length = 1 := by decide +kernel
          walk_at "x"
          refine x_fmtI (log_ok hyb.1 hyb.2) ?_
          refine x_jsS (by rw [empty_app]; exact sz (by omega)) ?_
          rw [empty_app]
          walk_at "x"
          refine ⟨by rw [len_app, eh]; exact sz (by omega), ?_⟩
          walk_at "x"
          refine x_appO 0 S' rfl hz (fun H2 S2 => ?_)
          rw [← ei] at S2
          rw [e2] at fin
          exact fin _ S2
        | false =>
          have ei : itemText y = Str.ofString (toString y.1) := by unfold itemText; rw [e2]; rfl
          walk_at "x"
          refine x_fmtI (log_ok hyb.1 hyb.2) ?_
          walk_at "x"
          refine x_appO 0 S' rfl hz (fun H2 S2 => ?_)
          rw [← ei] at S2
          rw [e2] at fin
          exact fin _ S2
      · rintro σ' I' M' H' e S' ⟨v2, v3, rfl, rfl⟩
        rw [List.take_length] at S'
        walk_at "x"
        refine x_joinL (SqL.of (S'.get (i := 0) rfl)) ?_ ?_
        · have h1 : ((w :: (ownText b ++ st.map itemText)).map (·.length)).sum ≤ w.length + ((ownText b ++ st.map itemText).map (·.length)).sum := by simp
          have h2 := StrLaws.sumLen_le (B := 41) (ownText b ++ st.map itemText) (fun z hz => by
            rcases List.mem_append.mp hz with h | h
            · cases b <;> simp [ownText] at h
              rw [h]
              decide +kernel
            · obtain ⟨y, hy, rfl⟩ := List.mem_map.mp h
              exact item_len (hb y hy).1 (hb y hy).2)
          have h3 : (" " : Str).length = 1 := by decide +kernel
          have h4 := own_text b
          rw [h3, List.length_cons]
          rw [List.length_append, List.length_map] at h2 ⊢
          omega
        · exact k _ _ e (S'.drop 0)
/-- the class Case, its methods shown -/
structure DCase (P : Program) (w : World) (K : PySem.W.Frag) (mg : Str → Option Value) (base : Heap) (C : Addr) : Prop where
  T : ClC K C
  m : mg "Case" = some (.ref C)
  init : ∃ (f : Addr) (fd : FuncData), Mk K C f ∧ FnOk P w K mg base CX0 1 f fd ["self", "door", "states", "own"] (spCInit K C) ∧ Binds K fd ["self", "door", "states", "own"] [] ∧ (∃ ds, Vals [V.bl false] ds ∧ Binds K fd ["self", "door", "states", "own"] ds) ∧ ∃ g, KBn K fd ["self", "door", "states", "own"] 3 ["own"] g (fun vs zs => vs ++ zs)
  eq : ∃ (f : Addr) (fd : FuncData), FnOk P w K mg base CX0 1 f fd ["self", "other"] (spCEq K C) ∧ Oeq K C f ∧ Binds K fd ["self", "other"] []
  len : ∃ (f : Addr) (fd : FuncData), FnOk P w K mg base CX0 1 f fd ["self"] (spCLen K C) ∧ Meth K C "__len__" f ∧ Binds K fd ["self"] []
  str : ∃ (f : Addr) (fd : FuncData), FnOk P w K mg base CX0 1 f fd ["self"] (spCStr K C) ∧ Meth K C "__str__" f ∧ Binds K fd ["self"] []
theorem case_make {C x dx r : Addr} {H1 I : Hp} {M : List (Addr × HO)} {Z : List (Addr × HO) → Prop} {wd : Str} {b : Bool} {xs : List V} {rows : List RowE} {G : Hp → Prop} {E : XK} {vs : List V} (ev : vs = [.ref x, .str wd, .ref r, .bl b]) (S : Own H1 I M Z) (h1 : H1 x = none) (h2 : H1 dx = none) (h3 : dx ≠ x)
    (hs : ∀ N I' H', Same I I' → Own H' I' (N ++ M) Z → SqL K H' r xs) (rx : Rps K I xs rows) (hl : rows.length ≤ 8) (k : ∀ H' I', Same I I' → CaseAt K C I' (.ref x) wd (rows.map RowE.val) b → Own H' I' M Z → G H') :
    spCInit K C vs (upd (upd H1 dx (.own x)) x (.ins C dx [])) (fun v H2 => v = .non ∧ G H2) E :=
  own_made S h1 h2 h3 fun I' e S' => ⟨I', M, Z, x, dx, r, wd, b, xs, rows, ev, S', fun N I2 H2 e2 S2 => hs N I2 H2 (e.trans e2) S2, rx.same e, hl, fun H' I2 e2 c S2 => ⟨rfl, k H' I2 (e.trans e2) c S2⟩⟩
end
end Dz

/-! Letters drawn, the parts of a case. -/
namespace Dz
open PySem L2
theorem letters_sg : sg ("abcdefghijklmnopqrstuvwxyz" : Str) = List.range' 97 26 := by decide +kernel
theorem letters_len : ("abcdefghijklmnopqrstuvwxyz" : Str).length = 26 := by decide +kernel
theorem letters_mem {c : Nat} (h : c ∈ sg ("abcdefghijklmnopqrstuvwxyz" : Str)) : 97 ≤ c ∧ c ≤ 122 := by
  rw [letters_sg, List.mem_range'_1] at h
  omega
theorem strOk_app {a b : Str} (ha : Enc.ok a = true) (hb : Enc.ok b = true) : Enc.ok (a ++ b) = true := by
  have ha : a.cps.all (· < 0x110000) = true := ha
  have hb : b.cps.all (· < 0x110000) = true := hb
  show (a ++ b).cps.all (· < 0x110000) = true
  rw [← Array.all_toList] at ha hb ⊢
  have e : (a ++ b).cps.toList = a.cps.toList ++ b.cps.toList := sg_app a b
  rw [e, List.all_append, ha, hb, Bool.and_self]
theorem strOk_one {c : Nat} (h : c ≤ 122) : Enc.ok (⟨#[c]⟩ : Str) = true := by
  show (#[c] : Array Nat).all (· < 0x110000) = true
  rw [← Array.all_toList]
  show (decide (c < 0x110000) && true) = true
  rw [Bool.and_true]
  exact decide_eq_true (by omega)
theorem join0_len : ∀ ys : List Str, (∀ y ∈ ys, y.length = 1) → (Txt.join "" ys).length = ys.length := by
  intro ys
  rw [TL.join_eq]
  induction ys with
  | nil => intro _; rfl
  | cons x r ih =>
    intro h
    cases r with
    | nil => exact h x (List.mem_singleton.mpr rfl)
    | cons z r =>
      show (x ++ "" ++ Str.join "" (z :: r)).length = _
      rw [len_app, len_app, ih fun y hy => h y (List.mem_cons_of_mem _ hy), h x (List.mem_cons_self ..), List.length_cons, List.length_cons]
      have e : ("" : Str).length = 0 := rfl
      rw [e]
      show 1 + 0 + (r.length + 1) = r.length + 1 + 1
      omega
theorem join0_ok : ∀ ys : List Str, (∀ y ∈ ys, Enc.ok y = true) → Enc.ok (Txt.join "" ys) = true := by
  intro ys
  rw [TL.join_eq]
  induction ys with
  | nil => intro _; decide +kernel
  | cons x r ih =>
    intro h
    cases r with
    | nil => exact h x (List.mem_singleton.mpr rfl)
    | cons z r => exact strOk_app (strOk_app (h x (List.mem_cons_self ..)) (by decide +kernel)) (ih fun y hy => h y (List.mem_cons_of_mem _ hy))
/-- the parts of a case -/
abbrev Parts := T3 Str (List (Int × Bool)) Bool
structure PtOk (l : Nat) (n : Int) (x : Parts) : Prop where
  wl : x.a.length ≤ l
  wk : Enc.ok x.a = true
  lo : 1 ≤ x.b.length
  hi : x.b.length ≤ 8
  rg : ∀ y ∈ x.b, 0 ≤ y.1 ∧ y.1 < n
end Dz

/-! The law of cases: what it draws. -/
namespace Dz
open PySem L2
local macro_rules | `(tactic| walk_at "sm") => `(tactic| first | exact Same.refl _ | assumption | (refine' Same.trans ?_ (by assumption); walk_at "sm"))
local macro_rules | `(tactic| walk_at "own") => `(tactic| first
  | exact upd_same
  | assumption
  | (apply Own.get (i := 0); assumption; with_unfolding_all rfl)
  | (apply Own.get (i := 1); assumption; with_unfolding_all rfl)
  | (apply Own.get (i := 2); assumption; with_unfolding_all rfl)
  | (apply Own.get (i := 3); assumption; with_unfolding_all rfl)
  | (apply Own.get (i := 4); assumption; with_unfolding_all rfl)
  | (apply Own.get (i := 5); assumption; with_unfolding_all rfl))
local macro_rules | `(tactic| walk_at "fix") => `(tactic| first
  | assumption
  | (apply Own.imm; assumption; assumption)
  | (apply Own.imm; assumption; apply (show ∀ {I J : Hp}, Same I J → ∀ {a : Addr} {o : HO}, I a = some o → J a = some o from fun s _ _ e => s _ _ e); rotate_left; assumption; walk_at "sm"))
local macro_rules | `(tactic| walk_at "sq") => `(tactic| first
  | (apply SqL.of; walk_at "own")
  | (apply SqL.of; walk_at "fix")
  | (apply Same.seq; (apply Own.imm; assumption); first | assumption | (apply Same.seq; rotate_left; assumption; walk_at "sm")))
local macro_rules | `(tactic| walk_at "sqt") => `(tactic| first
  | (apply SqT.of; walk_at "own")
  | (apply SqT.of; walk_at "fix")
  | (apply Same.seqT; (apply Own.imm; assumption); first | assumption | (apply Same.seqT; rotate_left; assumption; walk_at "sm")))
local macro_rules | `(tactic| walk_at "ar") => `(tactic| first | assumption | omega | decide | exact wide_div (by assumption) (by assumption) (by decide) (by decide) | (constructor <;> omega) | (left; constructor <;> omega) | (right; constructor <;> omega))
local macro_rules | `(tactic| walk_at "x1") => `(tactic| with_reducible first
  | refine' x_seq ?_
  | refine' x_asg ?_
  | refine' x_name ?_
  | (refine' x_var ?x_h ?_; (case x_h => with_unfolding_all rfl))
  | refine' x_c ?_
  | refine' x_op ?_
  | refine' x_cons ?_
  | refine' x_nil ?_
  | refine' x_cb ?_
  | refine' x_ifS ?_
  | refine' x_test ?_
  | refine' x_and ?_
  | refine' x_or ?_
  | refine' x_not ?_
  | refine' x_bl ?_
  | refine' x_rI0 ?_
  | refine' x_eqI ?_
  | refine' x_neI ?_
  | refine' x_eqS ?_
  | refine' x_neS ?_
  | refine' x_eqB ?_
  | refine' x_neB ?_
  | refine' x_intI ?_
  | refine' x_intB ?_
  | refine' x_gSub ?_
  | refine' x_gCons ?_
  | refine' x_gNil ?_
  | refine' x_ret ?_
  | refine' x_retN ?_
  | refine' x_next ?_
  | refine' x_drop ?_
  | refine' x_call ?_
  | refine' x_sl ?_
  | refine' x_noPart ?_
  | refine' x_part ?_
  | refine' x_intE ?_
  | refine' x_tup ?_
  | refine' x_lst ?_
  | refine' x_iList ?_
  | refine' x_iTup ?_
  | refine' x_range1 ?_
  | refine' x_tdget ?_
  | refine' x_tdin ?_
  | refine' x_tdnotin ?_
  | refine' x_sdput ?_
  | refine' x_trev ?_
  | refine' x_for ?_
  | refine' x_lc ?_
  | refine' x_yes ?_
  | refine' x_un ?_
  | refine' x_bm ?_
  | refine' x_bm0 ?_
  | refine' x_tB ?_
  | refine' x_notV ?_
  | refine' x_andV ?_
  | refine' x_orV ?_
  | refine' x_ifE ?_
  | refine' x_isN ?_
  | refine' x_notN ?_
  | refine' x_inSg ?_
  | refine' x_notInSg ?_
  | refine' x_min2 ?_
  | refine' x_tyS ?_
  | refine' x_ifTrue ?_
  | refine' x_ifFalse ?_
  | refine' x_ifN ?_)
local macro_rules | `(tactic| walk_at "x2") => `(tactic| first
  | ((with_reducible refine' x_mod ?x_h ?_); (case x_h => walk_at "ar"))
  | ((with_reducible refine' x_rI ?x_h ?_); (case x_h => walk_at "ar"))
  | ((with_reducible refine' x_lenL ?x_h ?_); (case x_h => walk_at "sq"))
  | ((with_reducible refine' x_lenT ?x_h ?_); (case x_h => walk_at "sqt"))
  | ((with_reducible refine' x_ixL ?x_h ?x_a ?_); (case x_h => walk_at "sq"); (case x_a => first | with_unfolding_all rfl | assumption))
  | ((with_reducible refine' x_ixT ?x_h ?x_a ?_); (case x_h => walk_at "sqt"); (case x_a => first | with_unfolding_all rfl | assumption))
  | ((with_reducible refine' x_refL ?x_h ?_); (case x_h => walk_at "sq"))
  | ((with_reducible refine' x_refT ?x_h ?_); (case x_h => walk_at "sqt"))
  | ((with_reducible refine' x_gTup ?x_h ?x_a ?_); (case x_h => walk_at "sqt"); (case x_a => rfl))
  | ((with_reducible refine' x_tyL ?x_h ?_); (case x_h => walk_at "sq")))
local macro_rules | `(tactic| walk_at "set") => `(tactic| (first
  | (refine x_setO 0 (by assumption) (by with_unfolding_all rfl) (by with_unfolding_all rfl) ?_)
  | (refine x_setO 1 (by assumption) (by with_unfolding_all rfl) (by with_unfolding_all rfl) ?_)
  | (refine x_setO 2 (by assumption) (by with_unfolding_all rfl) (by with_unfolding_all rfl) ?_)
  | (refine x_setO 3 (by assumption) (by with_unfolding_all rfl) (by with_unfolding_all rfl) ?_)))
local macro_rules | `(tactic| walk_at "x") => `(tactic| repeat first | walk_at "x1" | walk_at "x2")
local macro_rules | `(tactic| walk_at "dr") => `(tactic| refine' x_draw (by assumption) (by decide) (by decide) ?_)
local macro_rules | `(tactic| walk_at "y1") => `(tactic| with_reducible first
  | refine' x_chain ?_
  | refine' x_iS ?_
  | refine' x_strE ?_)
local macro_rules | `(tactic| walk_at "y2") => `(tactic| first
  | ((with_reducible refine' x_lenS ?x_h ?_); (case x_h => first | assumption | omega)))
local macro_rules | `(tactic| walk_at "x") => `(tactic| repeat first | walk_at "x1" | walk_at "y1" | walk_at "x2" | walk_at "y2")
local macro_rules | `(tactic| walk_at "z1") => `(tactic| with_reducible first
  | refine' x_fld ?_
  | refine' x_sFld ?_
  | refine' x_fmt ?_
  | refine' x_make ?_
  | refine' x_makeN ?_
  | refine' x_js ?_
  | refine' x_js0 ?_
  | refine' x_ifE ?_)
local macro_rules | `(tactic| walk_at "x") => `(tactic| repeat first | walk_at "x1" | walk_at "y1" | walk_at "z1" | walk_at "x2" | walk_at "y2")
abbrev sDrawn : Stmt := (PySem.Challenge.pw_everydoor_k21_cases.main.body.getD 6 (.Pass ⟨0, 0, 0, 0⟩))
abbrev nDrawn : List Str := ["_law_source_here", "_law_letters", "_law_k", "_law_word", "_law_states", "_law_marks"]
theorem scDrawn : FnScope nDrawn ["_law_source_here"] (defScope sDrawn) := ⟨rfl, rfl, rfl, by decide +kernel, rfl, by decide +kernel, by decide +kernel⟩
def spDrawn (K : PySem.W.Frag) : L2.Sp := fun vs H Q _ => ∃ (I : Hp) (M : List (Addr × HO)) (p : Addr), vs = [.ref p] ∧ Own H I M (SrcZ p) ∧
  ∀ r x H' I', Same I I' → Own H' I' M (SrcZ p) → Rp K I' r x → PtOk 8 (10 ^ 30) x → Q r H'
section
variable {P : Program} {w : World} {K : PySem.W.Frag} {mg : Str → Option Value} {base : Heap}
theorem ok_drawn {f : Addr} {fd : FuncData} (F : Fun K "_law_drawn" "_law_drawn" sDrawn f fd) (T : Bi mg) (Ddraw : Df P w K mg base "_law_draw" 1 ["_law_source_here", "_law_limit"] spDraw) :
    FnOk P w K mg base CX0 2 f fd ["_law_source_here"] (spDrawn K) := by
  obtain ⟨draw_f, draw_d, draw_g, draw_m, draw_k, draw_b⟩ := Ddraw.ex
  refine F.ok scDrawn (fun vs H Q E h => ?_) (fun cdv A outer s H vs Q E hr h => ?_)
  · obtain ⟨_, _, _, rfl, _⟩ := h
    rfl
  · obtain ⟨I, M, p, rfl, S, k⟩ := h
    refine ⟨_, (pss_cons (ps_set (i := 1) scDrawn.nd rfl (Or.inr rfl) pe_str)
    (pss_cons (ps_set (i := 3) scDrawn.nd rfl (Or.inl rfl) (pe_bmK (K := K) PySem.F.plainAttrs_str PySem.F.slot_str_join PySem.F.type_str_join (m_joinK (K := K)) pe_str (pa_cons (pe_lc (own := [("_law_k", 2)]) rfl scDrawn.nd (pi_range1 (by rfl) T.range_ (pa_cons (pe_call draw_g (hr.mono (by decide)) (by rfl) draw_m draw_k draw_b .nil pass0 (pa_cons (pv 0) (pa_cons pe_int pa_nil))) pa_nil)) (blkOk_by (N := nDrawn) (sc := (defScope sDrawn)) (by decide +kernel)) (fun _ _ _ _ _ => (pg_name (i := 2) scDrawn.nd rfl (Or.inl rfl))) (fun _ _ _ _ _ => pts_nil) (fun _ _ _ _ _ => (pe_ix ix_str (pv 1) (pe_call draw_g (hr.mono (by decide)) (by rfl) draw_m draw_k draw_b .nil pass0 (pa_cons (pv 0) (pa_cons pe_int pa_nil))) (fun _ _ => rfl)))) pa_nil)))
    (pss_cons (ps_set (i := 4) scDrawn.nd rfl (Or.inl rfl) (pe_lst pa_nil))
    (pss_cons (ps_for PassesOwn.never rfl (pi_range1 (by rfl) T.range_ (pa_cons (pe_op op_add pe_int (pe_call draw_g (hr.mono (by decide)) (by rfl) draw_m draw_k draw_b .nil pass0 (pa_cons (pv 0) (pa_cons pe_int pa_nil)))) pa_nil)) (pg_name (i := 2) scDrawn.nd rfl (Or.inl rfl))
      (pss_cons (ps_set (i := 5) scDrawn.nd rfl (Or.inl rfl) (pe_call draw_g (hr.mono (by decide)) (by rfl) draw_m draw_k draw_b .nil pass0 (pa_cons (pv 0) (pa_cons (pe_ix (ix_listK (K := K)) (pe_lst (pa_cons pe_int (pa_cons (pe_op op_pow pe_int pe_int) pa_nil))) (pe_callTy c_int (by rfl) T.int_ (by decide +kernel) (pa_cons (pe_cmpR op_eq (pe_call draw_g (hr.mono (by decide)) (by rfl) draw_m draw_k draw_b .nil pass0 (pa_cons (pv 0) (pa_cons pe_int pa_nil))) pe_int (nomark _)) pa_nil)) (fun _ _ => rfl)) pa_nil))))
      (pss_one (ps_expr (pe_bmK (K := K) PySem.F.plainAttrs_list PySem.F.slot_list_append PySem.F.type_list_append mt_append (pv 4) (pa_cons (pe_tup (pa_cons (pv 5) (pa_cons (pe_cmpR op_eq (pe_call draw_g (hr.mono (by decide)) (by rfl) draw_m draw_k draw_b .nil pass0 (pa_cons (pv 0) (pa_cons pe_int pa_nil))) pe_int (nomark _)) pa_nil))) pa_nil))))))
    (pss_one (ps_ret (pe_tup (pa_cons (pv 3) (pa_cons (pv 4) (pa_cons (pe_cmpR op_eq (pe_call draw_g (hr.mono (by decide)) (by rfl) draw_m draw_k draw_b .nil pass0 (pa_cons (pv 0) (pa_cons pe_int pa_nil))) pe_int (nomark _)) pa_nil)))))))))), ?_⟩
    try dsimp only [cxOf]
    walk_at "x"
    walk_at "dr"
    intro v H1 v0 v1 S1
    walk_at "x"
    refine x_rng1 (by omega) (by omega) ?_
    refine x_lcR (n := v.toNat) S1 (fun i acc _ => ∃ ys : List Str, acc = ys.map V.str ∧ ys.length ≤ i ∧ ∀ y ∈ ys, y.length = 1 ∧ Enc.ok y = true) ⟨[], rfl, Nat.le_refl _, fun _ h => (by cases h)⟩ ?_ ?_
    · rintro i acc D I2 H2 hi e S2 hl ⟨ys, rfl, hy, hc⟩
      walk_at "x"
      refine ⟨rfl, ?_⟩
      walk_at "x"
      walk_at "dr"
      intro c H3 c0 c1 S3
      refine x_ixSo (by rw [letters_len]; decide) c0 (by rw [letters_len]; exact c1) (fun a am _ => ?_)
      refine x_lcE e S3 hl (szl (by omega)) ⟨ys ++ [⟨#[a]⟩], by simp, by simp; omega, fun y hy => ?_⟩
      rcases List.mem_append.mp hy with h | h
      · exact hc y h
      · rw [List.mem_singleton.mp h]
        exact ⟨len_one a, strOk_one (letters_mem am).2⟩
    · rintro D acc I2 H2 e2 S2 ⟨ys, rfl, hy, hc⟩
      have hjl := join0_len ys fun y h => (hc y h).1
      have hjo := join0_ok ys fun y h => (hc y h).2
      walk_at "x"
      refine x_joinL (SqL.of (S2.get (i := 0) rfl)) ?_ ?_
      · have := StrLaws.sumLen_le (B := 1) ys fun z hz => Nat.le_of_eq (hc z hz).1
        have e0 : ("" : Str).length = 0 := rfl
        rw [e0]
        omega
      have S2 := S2.drop 0
      walk_at "x"
      refine x_lstM S2 (show 0 ≤ sizeLine by decide) (fun q H3 S3 => ?_)
      walk_at "x"
      walk_at "dr"
      intro v2 H4 v20 v21 S4
      walk_at "x"
      refine x_rng1 (by omega) (by omega) ?_
      refine x_forR (n := (1 + v2).toNat) S4 (fun i σ' I' M' => ∃ (st : List (Int × Bool)) (vs : List V) (v5 v2 : Option V), M' = (q, .lst vs) :: M ∧ σ' = [some (.ref p), some (.str "abcdefghijklmnopqrstuvwxyz"), v2, some (.str (Txt.join "" ys)), some (.ref q), v5] ∧ Rps K I' vs st ∧ st.length = i ∧ ∀ y ∈ st, 0 ≤ y.1 ∧ y.1 < 10 ^ 30) ?_ ?_ ?_
      · exact ⟨[], [], _, _, rfl, rfl, Rps.nil, rfl, fun _ h => (by cases h)⟩
      · rintro i σ' I' M' H' hi e S' ⟨st, vs, v5, vk, rfl, rfl, rs, hl, hb⟩
        walk_at "x"
        refine x_lstI S' (show 2 ≤ sizeLine by decide) (fun q2 I5 H5 e5 h5 S5 => ?_)
        walk_at "x"
        walk_at "dr"
        intro c H6 c0 c1 S6
        walk_at "x"
        have step : ∀ lim : Int, 0 < lim → lim ≤ 10 ^ 30 → atI [V.int 4, V.int (10 ^ Int.toNat 30)] (if decide (c = 3) = true then 1 else 0) = some (.int lim) → lim.natAbs < 2 ^ 200 := fun lim h0 h1 _ => by
          have : lim.natAbs ≤ 10 ^ 30 := by omega
          exact Nat.lt_of_le_of_lt this (by decide)
        obtain ⟨lim, el, hl0, hl1⟩ : ∃ lim : Int, atI [V.int 4, V.int (10 ^ Int.toNat 30)] (if decide (c = 3) = true then 1 else 0) = some (.int lim) ∧ 0 < lim ∧ lim ≤ 10 ^ 30 := by
          by_cases hc3 : c = 3
          · rw [hc3]
            exact ⟨10 ^ 30, rfl, by decide, by decide⟩
          · rw [decide_eq_false hc3]
            exact ⟨4, rfl, by decide, by decide⟩
        refine x_ixL (SqL.of (S6.imm _ _ h5)) el ?_
        walk_at "x"
        refine x_draw S6 hl0 (step _ hl0 hl1 el) (fun m H7 m0 m1 S7 => ?_)
        walk_at "x"
        walk_at "dr"
        intro b H8 b0 b1 S8
        walk_at "x"
        refine x_tupI S8 (show 2 ≤ sizeLine by decide) (fun t I9 H9 e9 h9 S9 => ?_)
        walk_at "x"
        refine x_appO 0 S9 rfl (szl (by rw [rs.len]; omega)) (fun H10 S10 => ?_)
        refine ⟨I9, _, e.trans (e5.trans e9), S10, st ++ [(m, decide (b = 1))], _, _, _, rfl, rfl, (rs.same (e5.trans e9)).app (Rps.cons (Rp.mkPair (SqT.of h9) (Rp.ofInt _) (Rp.ofBool _)) Rps.nil), by simp [hl], fun y hy => ?_⟩
        rcases List.mem_append.mp hy with h | h
        · exact hb y h
        · rw [List.mem_singleton.mp h]
          exact ⟨m0, Int.lt_of_lt_of_le m1 hl1⟩
      · rintro σ' I' M' H' e S' ⟨st, vs, v5, vk, rfl, rfl, rs, hl, hb⟩
        walk_at "x"
        walk_at "dr"
        intro b H5 b0 b1 S5
        walk_at "x"
        obtain ⟨I6, e6, h6, S6⟩ := S5.still 0 rfl
        refine x_tupI S6 (show 3 ≤ sizeLine by decide) (fun t I7 H7 e7 h7 S7 => ?_)
        refine k _ ⟨Txt.join "" ys, st, decide (b = 1)⟩ _ I7 (e2.trans (e.trans (e6.trans e7))) S7 (Rp.mkT3 (SqT.of h7) (Rp.ofStr _) (Rp.mkList (e7 _ _ h6) (rs.same (e6.trans e7))) (Rp.ofBool _)) ⟨?_, hjo, ?_, ?_, hb⟩
        · show (Txt.join "" ys).length ≤ 8
          rw [hjl]; omega
        · show 1 ≤ st.length
          omega
        · show st.length ≤ 8
          omega
end
end Dz

/-! The law of cases: the other parts. -/
namespace Dz
open PySem L2
local macro_rules | `(tactic| walk_at "sm") => `(tactic| first | exact Same.refl _ | assumption | (refine' Same.trans ?_ (by assumption); walk_at "sm"))
local macro_rules | `(tactic| walk_at "own") => `(tactic| first
  | exact upd_same
  | assumption
  | (apply Own.get (i := 0); assumption; with_unfolding_all rfl)
  | (apply Own.get (i := 1); assumption; with_unfolding_all rfl)
  | (apply Own.get (i := 2); assumption; with_unfolding_all rfl)
  | (apply Own.get (i := 3); assumption; with_unfolding_all rfl)
  | (apply Own.get (i := 4); assumption; with_unfolding_all rfl)
  | (apply Own.get (i := 5); assumption; with_unfolding_all rfl))
local macro_rules | `(tactic| walk_at "fix") => `(tactic| first
  | assumption
  | (apply Own.imm; assumption; assumption)
  | (apply Own.imm; assumption; apply (show ∀ {I J : Hp}, Same I J → ∀ {a : Addr} {o : HO}, I a = some o → J a = some o from fun s _ _ e => s _ _ e); rotate_left; assumption; walk_at "sm"))
local macro_rules | `(tactic| walk_at "sq") => `(tactic| first
  | (apply SqL.of; walk_at "own")
  | (apply SqL.of; walk_at "fix")
  | (apply Same.seq; (apply Own.imm; assumption); first | assumption | (apply Same.seq; rotate_left; assumption; walk_at "sm")))
local macro_rules | `(tactic| walk_at "sqt") => `(tactic| first
  | (apply SqT.of; walk_at "own")
  | (apply SqT.of; walk_at "fix")
  | (apply Same.seqT; (apply Own.imm; assumption); first | assumption | (apply Same.seqT; rotate_left; assumption; walk_at "sm")))
local macro_rules | `(tactic| walk_at "ar") => `(tactic| first | assumption | omega | decide | exact wide_div (by assumption) (by assumption) (by decide) (by decide) | (constructor <;> omega) | (left; constructor <;> omega) | (right; constructor <;> omega))
local macro_rules | `(tactic| walk_at "x1") => `(tactic| with_reducible first
  | refine' x_seq ?_
  | refine' x_asg ?_
  | refine' x_name ?_
  | (refine' x_var ?x_h ?_; (case x_h => with_unfolding_all rfl))
  | refine' x_c ?_
  | refine' x_op ?_
  | refine' x_cons ?_
  | refine' x_nil ?_
  | refine' x_cb ?_
  | refine' x_ifS ?_
  | refine' x_test ?_
  | refine' x_and ?_
  | refine' x_or ?_
  | refine' x_not ?_
  | refine' x_bl ?_
  | refine' x_rI0 ?_
  | refine' x_eqI ?_
  | refine' x_neI ?_
  | refine' x_eqS ?_
  | refine' x_neS ?_
  | refine' x_eqB ?_
  | refine' x_neB ?_
  | refine' x_intI ?_
  | refine' x_intB ?_
  | refine' x_gSub ?_
  | refine' x_gCons ?_
  | refine' x_gNil ?_
  | refine' x_ret ?_
  | refine' x_retN ?_
  | refine' x_next ?_
  | refine' x_drop ?_
  | refine' x_call ?_
  | refine' x_sl ?_
  | refine' x_noPart ?_
  | refine' x_part ?_
  | refine' x_intE ?_
  | refine' x_tup ?_
  | refine' x_lst ?_
  | refine' x_iList ?_
  | refine' x_iTup ?_
  | refine' x_range1 ?_
  | refine' x_tdget ?_
  | refine' x_tdin ?_
  | refine' x_tdnotin ?_
  | refine' x_sdput ?_
  | refine' x_trev ?_
  | refine' x_for ?_
  | refine' x_lc ?_
  | refine' x_yes ?_
  | refine' x_un ?_
  | refine' x_bm ?_
  | refine' x_bm0 ?_
  | refine' x_tB ?_
  | refine' x_notV ?_
  | refine' x_andV ?_
  | refine' x_orV ?_
  | refine' x_ifE ?_
  | refine' x_isN ?_
  | refine' x_notN ?_
  | refine' x_inSg ?_
  | refine' x_notInSg ?_
  | refine' x_min2 ?_
  | refine' x_tyS ?_
  | refine' x_ifTrue ?_
  | refine' x_ifFalse ?_
  | refine' x_ifN ?_)
local macro_rules | `(tactic| walk_at "x2") => `(tactic| first
  | ((with_reducible refine' x_mod ?x_h ?_); (case x_h => walk_at "ar"))
  | ((with_reducible refine' x_rI ?x_h ?_); (case x_h => walk_at "ar"))
  | ((with_reducible refine' x_lenL ?x_h ?_); (case x_h => walk_at "sq"))
  | ((with_reducible refine' x_lenT ?x_h ?_); (case x_h => walk_at "sqt"))
  | ((with_reducible refine' x_ixL ?x_h ?x_a ?_); (case x_h => walk_at "sq"); (case x_a => first | with_unfolding_all rfl | assumption))
  | ((with_reducible refine' x_ixT ?x_h ?x_a ?_); (case x_h => walk_at "sqt"); (case x_a => first | with_unfolding_all rfl | assumption))
  | ((with_reducible refine' x_refL ?x_h ?_); (case x_h => walk_at "sq"))
  | ((with_reducible refine' x_refT ?x_h ?_); (case x_h => walk_at "sqt"))
  | ((with_reducible refine' x_gTup ?x_h ?x_a ?_); (case x_h => walk_at "sqt"); (case x_a => rfl))
  | ((with_reducible refine' x_tyL ?x_h ?_); (case x_h => walk_at "sq")))
local macro_rules | `(tactic| walk_at "set") => `(tactic| (first
  | (refine x_setO 0 (by assumption) (by with_unfolding_all rfl) (by with_unfolding_all rfl) ?_)
  | (refine x_setO 1 (by assumption) (by with_unfolding_all rfl) (by with_unfolding_all rfl) ?_)
  | (refine x_setO 2 (by assumption) (by with_unfolding_all rfl) (by with_unfolding_all rfl) ?_)
  | (refine x_setO 3 (by assumption) (by with_unfolding_all rfl) (by with_unfolding_all rfl) ?_)))
local macro_rules | `(tactic| walk_at "x") => `(tactic| repeat first | walk_at "x1" | walk_at "x2")
local macro_rules | `(tactic| walk_at "dr") => `(tactic| refine' x_draw (by assumption) (by decide) (by decide) ?_)
local macro_rules | `(tactic| walk_at "y1") => `(tactic| with_reducible first
  | refine' x_chain ?_
  | refine' x_iS ?_
  | refine' x_strE ?_)
local macro_rules | `(tactic| walk_at "y2") => `(tactic| first
  | ((with_reducible refine' x_lenS ?x_h ?_); (case x_h => first | assumption | omega)))
local macro_rules | `(tactic| walk_at "x") => `(tactic| repeat first | walk_at "x1" | walk_at "y1" | walk_at "x2" | walk_at "y2")
local macro_rules | `(tactic| walk_at "z1") => `(tactic| with_reducible first
  | refine' x_fld ?_
  | refine' x_sFld ?_
  | refine' x_fmt ?_
  | refine' x_make ?_
  | refine' x_makeN ?_
  | refine' x_js ?_
  | refine' x_js0 ?_
  | refine' x_ifE ?_)
local macro_rules | `(tactic| walk_at "x") => `(tactic| repeat first | walk_at "x1" | walk_at "y1" | walk_at "z1" | walk_at "x2" | walk_at "y2")
abbrev sOther : Stmt := (PySem.Challenge.pw_everydoor_k21_cases.main.body.getD 7 (.Pass ⟨0, 0, 0, 0⟩))
abbrev nOther : List Str := ["_law_source_here", "_law_parts", "_law_word", "_law_states", "_law_flag", "_law_form", "_law_at"]
theorem scOther : FnScope nOther ["_law_source_here", "_law_parts"] (defScope sOther) := ⟨rfl, rfl, rfl, by decide +kernel, rfl, by decide +kernel, by decide +kernel⟩
def spOther (K : PySem.W.Frag) : L2.Sp := fun vs H Q _ => ∃ (I : Hp) (M : List (Addr × HO)) (p : Addr) (px : V) (x : Parts), vs = [.ref p, px] ∧ Own H I M (SrcZ p) ∧ Rp K I px x ∧ PtOk 8 (10 ^ 30) x ∧
  ∀ r y H' I', Same I I' → Own H' I' M (SrcZ p) → Rp K I' r y → PtOk 9 (10 ^ 31) y → Q r H'
theorem PtOk.up {x : Parts} (h : PtOk 8 (10 ^ 30) x) : PtOk 9 (10 ^ 31) x := ⟨Nat.le_succ_of_le h.wl, h.wk, h.lo, h.hi, fun y hy => ⟨(h.rg y hy).1, Int.lt_of_lt_of_le (h.rg y hy).2 (by decide)⟩⟩
/-- one item is another one -/
theorem PtOk.put {w : Str} {st : List (Int × Bool)} {b : Bool} {n : Nat} {y : Int × Bool} (h : PtOk 8 (10 ^ 30) ⟨w, st, b⟩) (hn : n < st.length) (h0 : 0 ≤ y.1) (h1 : y.1 < 10 ^ 31) : PtOk 9 (10 ^ 31) ⟨w, st.take n ++ [y] ++ st.drop (n + 1), b⟩ := by
  have hi := h.hi
  have hi : st.length ≤ 8 := hi
  have el : (st.take n ++ [y] ++ st.drop (n + 1)).length = st.length := by
    rw [List.length_append, List.length_append, List.length_take, List.length_drop, List.length_singleton]
    omega
  refine ⟨Nat.le_succ_of_le h.wl, h.wk, ?_, ?_, fun z hz => ?_⟩
  · show 1 ≤ (st.take n ++ [y] ++ st.drop (n + 1)).length
    omega
  · show (st.take n ++ [y] ++ st.drop (n + 1)).length ≤ 8
    omega
  · rcases List.mem_append.mp hz with hz | hz
    · rcases List.mem_append.mp hz with hz | hz
      · exact h.up.rg z (List.mem_of_mem_take hz)
      · rw [List.mem_singleton.mp hz]
        exact ⟨h0, h1⟩
    · exact h.up.rg z (List.mem_of_mem_drop hz)
section
variable {P : Program} {w : World} {K : PySem.W.Frag} {mg : Str → Option Value} {base : Heap}
theorem ok_other {f : Addr} {fd : FuncData} (F : Fun K "_law_other" "_law_other" sOther f fd) (T : Bi mg) (Ddraw : Df P w K mg base "_law_draw" 1 ["_law_source_here", "_law_limit"] spDraw) :
    FnOk P w K mg base CX0 2 f fd ["_law_source_here", "_law_parts"] (spOther K) := by
  obtain ⟨draw_f, draw_d, draw_g, draw_m, draw_k, draw_b⟩ := Ddraw.ex
  refine F.ok scOther (fun vs H Q E h => ?_) (fun cdv A outer s H vs Q E hr h => ?_)
  · obtain ⟨_, _, _, _, _, rfl, _⟩ := h
    rfl
  · obtain ⟨I, M, p, px, x, rfl, S, rx, ox, k⟩ := h
    refine ⟨_, (pss_cons (ps_asg (pv 1) (pg_tupK (K := K) (n := 3) rfl (pgs_cons (pg_name (i := 2) scOther.nd rfl (Or.inl rfl)) (pgs_cons (pg_name (i := 3) scOther.nd rfl (Or.inl rfl)) (pgs_cons (pg_name (i := 4) scOther.nd rfl (Or.inl rfl)) pgs_nil)))))
    (pss_cons (ps_set (i := 5) scOther.nd rfl (Or.inl rfl) (pe_call draw_g (hr.mono (by decide)) (by rfl) draw_m draw_k draw_b .nil pass0 (pa_cons (pv 0) (pa_cons pe_int pa_nil))))
    (pss_cons (ps_set (i := 6) scOther.nd rfl (Or.inl rfl) (pe_call draw_g (hr.mono (by decide)) (by rfl) draw_m draw_k draw_b .nil pass0 (pa_cons (pv 0) (pa_cons (pe_callB (c_lenK (K := K)) (by rfl) T.len_ PySem.boot_len (pa_cons (pv 3) pa_nil)) pa_nil))))
    (pss_cons (ps_if (pt_cmpR op_eq (pv 5) pe_int (nomark _))
      (pss_one (ps_ret (pe_tup (pa_cons (pe_op o_addS (pv 2) pe_str) (pa_cons (pv 3) (pa_cons (pv 4) pa_nil))))))
      pss_nil)
    (pss_cons (ps_if (pt_cmpR op_eq (pv 5) pe_int (nomark _))
      (pss_one (ps_ret (pe_tup (pa_cons (pv 2) (pa_cons (pv 3) (pa_cons (pe_not (pv 4)) pa_nil))))))
      pss_nil)
    (pss_cons (ps_if (pt_cmpR op_eq (pv 5) pe_int (nomark _))
      (pss_one (ps_ret (pe_tup (pa_cons (pv 2) (pa_cons (pe_op op_cat (pe_op op_cat (pe_slice (sl_listK (K := K)) (pv 3) po_none (po_some (pv 6))) (pe_lst (pa_cons (pe_tup (pa_cons (pe_op op_add (pe_ix (ix_tupK (K := K)) (pe_ix (ix_listK (K := K)) (pv 3) (pv 6) (fun _ _ => rfl)) pe_int (fun _ _ => rfl)) pe_int) (pa_cons (pe_ix (ix_tupK (K := K)) (pe_ix (ix_listK (K := K)) (pv 3) (pv 6) (fun _ _ => rfl)) pe_int (fun _ _ => rfl)) pa_nil))) pa_nil))) (pe_slice (sl_listK (K := K)) (pv 3) (po_some (pe_op op_add (pv 6) pe_int)) po_none)) (pa_cons (pv 4) pa_nil))))))
      pss_nil)
    (pss_cons (ps_if (pt_cmpR op_eq (pv 5) pe_int (nomark _))
      (pss_one (ps_ret (pe_tup (pa_cons (pv 2) (pa_cons (pe_op op_cat (pe_op op_cat (pe_slice (sl_listK (K := K)) (pv 3) po_none (po_some (pv 6))) (pe_lst (pa_cons (pe_tup (pa_cons (pe_ix (ix_tupK (K := K)) (pe_ix (ix_listK (K := K)) (pv 3) (pv 6) (fun _ _ => rfl)) pe_int (fun _ _ => rfl)) (pa_cons (pe_not (pe_ix (ix_tupK (K := K)) (pe_ix (ix_listK (K := K)) (pv 3) (pv 6) (fun _ _ => rfl)) pe_int (fun _ _ => rfl))) pa_nil))) pa_nil))) (pe_slice (sl_listK (K := K)) (pv 3) (po_some (pe_op op_add (pv 6) pe_int)) po_none)) (pa_cons (pv 4) pa_nil))))))
      pss_nil)
    (pss_cons (ps_if (pt_cmpR op_eq (pv 5) pe_int (nomark _))
      (pss_one (ps_ret (pe_tup (pa_cons (pv 2) (pa_cons (pe_revLK (K := K) (pv 3)) (pa_cons (pv 4) pa_nil))))))
      pss_nil)
    (pss_one (ps_ret (pv 1))))))))))), ?_⟩
    try dsimp only [cxOf]
    obtain ⟨ww, st, b⟩ := x
    obtain ⟨a, w1, w2, w3, rfl, sa, r1, r2, r3⟩ := rx.t3
    have r1 : Rp K I w1 ww := r1
    have r2 : Rp K I w2 st := r2
    have r3 : Rp K I w3 b := r3
    obtain rfl := r1.str
    obtain rfl := r3.bool
    obtain ⟨la, vs, rfl, hla, rs⟩ := r2.list
    have hhi : st.length ≤ 8 := ox.hi
    have hlo : 1 ≤ st.length := ox.lo
    have hwl : ww.length ≤ 8 := ox.wl
    walk_at "x"
    walk_at "dr"
    intro c H1 c0 c1 S1
    walk_at "x"
    have hvl := rs.len
    have hvl : vs.length = st.length := hvl
    rw [hvl]
    refine x_draw S1 (by omega) (by omega) (fun at_ H2 a0 a1 S2 => ?_)
    obtain ⟨n, rfl⟩ : ∃ n : Nat, at_ = (n : Int) := ⟨at_.toNat, by omega⟩
    have hn : n < st.length := by omega
    have hla2 := S2.imm _ _ hla
    walk_at "x"
    refine x_ifD (fun _ => ?_) (fun _ => ?_)
    · walk_at "x"
      have e1 : ("a" : Str).length = 1 := by decide +kernel
      refine x_addS (by rw [e1]; exact sz (by omega)) ?_
      walk_at "x"
      refine x_tupI S2 (show 3 ≤ sizeLine by decide) (fun t I3 H3 e3 h3 S3 => ?_)
      exact k _ ⟨ww ++ "a", st, b⟩ _ _ e3 S3 (Rp.mkT3 (SqT.of h3) (Rp.ofStr _) (r2.same e3) (Rp.ofBool _)) ⟨by show (ww ++ "a").length ≤ 9; rw [len_app, e1]; omega, strOk_app ox.wk (by decide +kernel), ox.lo, ox.hi, ox.up.rg⟩
    walk_at "x"
    refine x_ifD (fun _ => ?_) (fun _ => ?_)
    · walk_at "x"
      refine x_tupI S2 (show 3 ≤ sizeLine by decide) (fun t I3 H3 e3 h3 S3 => ?_)
      exact k _ ⟨ww, st, !b⟩ _ _ e3 S3 (Rp.mkT3 (SqT.of h3) (Rp.ofStr _) (r2.same e3) (Rp.ofBool _)) ⟨ox.up.wl, ox.wk, ox.lo, ox.hi, ox.up.rg⟩
    -- the item at n
    obtain ⟨y, ey⟩ : ∃ y, st[n]? = some y := ⟨_, List.getElem?_eq_getElem hn⟩
    obtain ⟨yv, eyv, ry⟩ := rs.at ey
    have eat : atI vs (n : Int) = some yv := by
      obtain ⟨z, h1, h2⟩ := atI_some (l := vs) (i := (n : Int)) (by omega) (by rw [hvl]; omega)
      rw [h1]
      have h2 : vs[n]? = some z := h2
      rw [h2] at eyv
      exact eyv
    obtain ⟨ya, u1, u2, rfl, sy, q1, q2⟩ := ry.pair
    obtain rfl := q1.int
    obtain rfl := q2.bool
    have hy := ox.rg y (List.mem_of_getElem? ey)
    have cat : ∀ (z : Int × Bool) (I7 : Hp) (q3 q5 q6 : Addr) (t4 : Addr) (H7 : Hp), Same I I7 → Own H7 I7 M (SrcZ p) → I7 t4 = some (.tup [.int z.1, .bl z.2]) → I7 q6 = some (.lst (cutV vs none (some (n : Int)) ++ [.ref t4] ++ cutV vs (some ((n : Int) + 1)) none)) → 0 ≤ z.1 → z.1 < 10 ^ 31 →
        TupK [.str ww, .ref q6, .bl b] H7 Q := fun z I7 q3 q5 q6 t4 H7 e7 S7 h4 h6 z0 z1 => by
      have en : ((n : Int) + 1) = ((n + 1 : Nat) : Int) := by omega
      rw [cutV_take, en, cutV_drop] at h6
      refine x_tupI S7 (show 3 ≤ sizeLine by decide) (fun t I8 H8 e8 h8 S8 => ?_)
      have r7 : Rps K I7 (vs.take n ++ [.ref t4] ++ vs.drop (n + 1)) (st.take n ++ [z] ++ st.drop (n + 1)) :=
        (((rs.take n).same e7).app (Rps.cons (Rp.mkPair (SqT.of h4) (Rp.ofInt _) (Rp.ofBool _)) Rps.nil)).app ((rs.drop (n + 1)).same e7)
      exact k _ ⟨ww, st.take n ++ [z] ++ st.drop (n + 1), b⟩ _ I8 (e7.trans e8) S8 (Rp.mkT3 (SqT.of h8) (Rp.ofStr _) ((Rp.mkList h6 r7).same e8) (Rp.ofBool _)) (ox.put hn z0 z1)
    have hz1 : (cutV vs none (some (n : Int))).length + 1 ≤ sizeLine := sz (by
      rw [cutV_take, List.length_take]
      omega)
    have hz2 : ∀ v : V, (cutV vs none (some (n : Int)) ++ [v]).length + (cutV vs (some ((n : Int) + 1)) none).length ≤ sizeLine := fun v => sz (by
      have en : ((n : Int) + 1) = ((n + 1 : Nat) : Int) := by omega
      rw [cutV_take, en, cutV_drop, List.length_append, List.length_take, List.length_drop, List.length_singleton]
      omega)
    walk_at "x"
    refine x_ifD (fun _ => ?_) (fun _ => ?_)
    · walk_at "x"
      refine x_slI S2 (SqL.of hla2) (fun q3 I3 H3 e3 h3 S3 => ?_)
      walk_at "x"
      refine x_ixL (SqL.of ((e3.trans S3.imm) _ _ hla)) eat ?_
      walk_at "x"
      refine x_ixL (SqL.of ((e3.trans S3.imm) _ _ hla)) eat ?_
      walk_at "x"
      refine x_tupI S3 (show 2 ≤ sizeLine by decide) (fun t4 I4 H4 e4 h4 S4 => ?_)
      walk_at "x"
      refine x_lstI S4 (show 1 ≤ sizeLine by decide) (fun q5 I5 H5 e5 h5 S5 => ?_)
      refine x_catI S5 (S5.imm _ _ (e5 _ _ (e4 _ _ h3))) (S5.imm _ _ h5) hz1 (fun q6 I6 H6 e6 h6 S6 => ?_)
      walk_at "x"
      refine x_slI S6 (SqL.of ((((e3.trans e4).trans (e5.trans e6)).trans S6.imm) _ _ hla)) (fun q7 I7 H7 e7 h7 S7 => ?_)
      refine x_catI S7 (S7.imm _ _ (e7 _ _ h6)) (S7.imm _ _ h7) (hz2 _) (fun q8 I8 H8 e8 h8 S8 => ?_)
      walk_at "x"
      exact cat (y.1 + 1, y.2) I8 q3 q5 q8 t4 H8 ((((e3.trans e4).trans (e5.trans e6)).trans e7).trans e8) S8 ((((e5.trans e6).trans e7).trans e8) _ _ h4) h8 (by show 0 ≤ y.1 + 1; omega) (by show y.1 + 1 < 10 ^ 31; omega)
    walk_at "x"
    refine x_ifD (fun _ => ?_) (fun _ => ?_)
    · walk_at "x"
      refine x_slI S2 (SqL.of hla2) (fun q3 I3 H3 e3 h3 S3 => ?_)
      walk_at "x"
      refine x_ixL (SqL.of ((e3.trans S3.imm) _ _ hla)) eat ?_
      walk_at "x"
      refine x_ixL (SqL.of ((e3.trans S3.imm) _ _ hla)) eat ?_
      walk_at "x"
      refine x_tupI S3 (show 2 ≤ sizeLine by decide) (fun t4 I4 H4 e4 h4 S4 => ?_)
      walk_at "x"
      refine x_lstI S4 (show 1 ≤ sizeLine by decide) (fun q5 I5 H5 e5 h5 S5 => ?_)
      refine x_catI S5 (S5.imm _ _ (e5 _ _ (e4 _ _ h3))) (S5.imm _ _ h5) hz1 (fun q6 I6 H6 e6 h6 S6 => ?_)
      walk_at "x"
      refine x_slI S6 (SqL.of ((((e3.trans e4).trans (e5.trans e6)).trans S6.imm) _ _ hla)) (fun q7 I7 H7 e7 h7 S7 => ?_)
      refine x_catI S7 (S7.imm _ _ (e7 _ _ h6)) (S7.imm _ _ h7) (hz2 _) (fun q8 I8 H8 e8 h8 S8 => ?_)
      walk_at "x"
      exact cat (y.1, !y.2) I8 q3 q5 q8 t4 H8 ((((e3.trans e4).trans (e5.trans e6)).trans e7).trans e8) S8 ((((e5.trans e6).trans e7).trans e8) _ _ h4) h8 hy.1 (by show y.1 < 10 ^ 31; omega)
    walk_at "x"
    refine x_ifD (fun _ => ?_) (fun _ => ?_)
    · walk_at "x"
      refine x_rvI S2 (SqL.of hla2) (fun q3 I3 H3 e3 h3 S3 => ?_)
      walk_at "x"
      refine x_tupI S3 (show 3 ≤ sizeLine by decide) (fun t I8 H8 e8 h8 S8 => ?_)
      refine k _ ⟨ww, st.reverse, b⟩ _ I8 (e3.trans e8) S8 (Rp.mkT3 (SqT.of h8) (Rp.ofStr _) ((Rp.mkList h3 (rs.rev.same e3)).same e8) (Rp.ofBool _)) ⟨ox.up.wl, ox.wk, ?_, ?_, fun z hz => ox.up.rg z (List.mem_reverse.mp hz)⟩
      · show 1 ≤ st.reverse.length
        rw [List.length_reverse]
        exact hlo
      · show st.reverse.length ≤ 8
        rw [List.length_reverse]
        exact hhi
    · walk_at "x"
      exact k _ ⟨ww, st, b⟩ _ I (Same.refl _) S2 rx ox.up
end
end Dz

/-! The law of cases: a case is made. -/
namespace Dz
open PySem L2
local macro_rules | `(tactic| walk_at "sm") => `(tactic| first | exact Same.refl _ | assumption | (refine' Same.trans ?_ (by assumption); walk_at "sm"))
local macro_rules | `(tactic| walk_at "own") => `(tactic| first
  | exact upd_same
  | assumption
  | (apply Own.get (i := 0); assumption; with_unfolding_all rfl)
  | (apply Own.get (i := 1); assumption; with_unfolding_all rfl)
  | (apply Own.get (i := 2); assumption; with_unfolding_all rfl)
  | (apply Own.get (i := 3); assumption; with_unfolding_all rfl)
  | (apply Own.get (i := 4); assumption; with_unfolding_all rfl)
  | (apply Own.get (i := 5); assumption; with_unfolding_all rfl))
local macro_rules | `(tactic| walk_at "fix") => `(tactic| first
  | assumption
  | (apply Own.imm; assumption; assumption)
  | (apply Own.imm; assumption; apply (show ∀ {I J : Hp}, Same I J → ∀ {a : Addr} {o : HO}, I a = some o → J a = some o from fun s _ _ e => s _ _ e); rotate_left; assumption; walk_at "sm"))
local macro_rules | `(tactic| walk_at "sq") => `(tactic| first
  | (apply SqL.of; walk_at "own")
  | (apply SqL.of; walk_at "fix")
  | (apply Same.seq; (apply Own.imm; assumption); first | assumption | (apply Same.seq; rotate_left; assumption; walk_at "sm")))
local macro_rules | `(tactic| walk_at "sqt") => `(tactic| first
  | (apply SqT.of; walk_at "own")
  | (apply SqT.of; walk_at "fix")
  | (apply Same.seqT; (apply Own.imm; assumption); first | assumption | (apply Same.seqT; rotate_left; assumption; walk_at "sm")))
local macro_rules | `(tactic| walk_at "ar") => `(tactic| first | assumption | omega | decide | exact wide_div (by assumption) (by assumption) (by decide) (by decide) | (constructor <;> omega) | (left; constructor <;> omega) | (right; constructor <;> omega))
local macro_rules | `(tactic| walk_at "x1") => `(tactic| with_reducible first
  | refine' x_seq ?_
  | refine' x_asg ?_
  | refine' x_name ?_
  | (refine' x_var ?x_h ?_; (case x_h => with_unfolding_all rfl))
  | refine' x_c ?_
  | refine' x_op ?_
  | refine' x_cons ?_
  | refine' x_nil ?_
  | refine' x_cb ?_
  | refine' x_ifS ?_
  | refine' x_test ?_
  | refine' x_and ?_
  | refine' x_or ?_
  | refine' x_not ?_
  | refine' x_bl ?_
  | refine' x_rI0 ?_
  | refine' x_eqI ?_
  | refine' x_neI ?_
  | refine' x_eqS ?_
  | refine' x_neS ?_
  | refine' x_eqB ?_
  | refine' x_neB ?_
  | refine' x_intI ?_
  | refine' x_intB ?_
  | refine' x_gSub ?_
  | refine' x_gCons ?_
  | refine' x_gNil ?_
  | refine' x_ret ?_
  | refine' x_retN ?_
  | refine' x_next ?_
  | refine' x_drop ?_
  | refine' x_call ?_
  | refine' x_sl ?_
  | refine' x_noPart ?_
  | refine' x_part ?_
  | refine' x_intE ?_
  | refine' x_tup ?_
  | refine' x_lst ?_
  | refine' x_iList ?_
  | refine' x_iTup ?_
  | refine' x_range1 ?_
  | refine' x_tdget ?_
  | refine' x_tdin ?_
  | refine' x_tdnotin ?_
  | refine' x_sdput ?_
  | refine' x_trev ?_
  | refine' x_for ?_
  | refine' x_lc ?_
  | refine' x_yes ?_
  | refine' x_un ?_
  | refine' x_bm ?_
  | refine' x_bm0 ?_
  | refine' x_tB ?_
  | refine' x_notV ?_
  | refine' x_andV ?_
  | refine' x_orV ?_
  | refine' x_ifE ?_
  | refine' x_isN ?_
  | refine' x_notN ?_
  | refine' x_inSg ?_
  | refine' x_notInSg ?_
  | refine' x_min2 ?_
  | refine' x_tyS ?_
  | refine' x_ifTrue ?_
  | refine' x_ifFalse ?_
  | refine' x_ifN ?_)
local macro_rules | `(tactic| walk_at "x2") => `(tactic| first
  | ((with_reducible refine' x_mod ?x_h ?_); (case x_h => walk_at "ar"))
  | ((with_reducible refine' x_rI ?x_h ?_); (case x_h => walk_at "ar"))
  | ((with_reducible refine' x_lenL ?x_h ?_); (case x_h => walk_at "sq"))
  | ((with_reducible refine' x_lenT ?x_h ?_); (case x_h => walk_at "sqt"))
  | ((with_reducible refine' x_ixL ?x_h ?x_a ?_); (case x_h => walk_at "sq"); (case x_a => first | with_unfolding_all rfl | assumption))
  | ((with_reducible refine' x_ixT ?x_h ?x_a ?_); (case x_h => walk_at "sqt"); (case x_a => first | with_unfolding_all rfl | assumption))
  | ((with_reducible refine' x_refL ?x_h ?_); (case x_h => walk_at "sq"))
  | ((with_reducible refine' x_refT ?x_h ?_); (case x_h => walk_at "sqt"))
  | ((with_reducible refine' x_gTup ?x_h ?x_a ?_); (case x_h => walk_at "sqt"); (case x_a => rfl))
  | ((with_reducible refine' x_tyL ?x_h ?_); (case x_h => walk_at "sq")))
local macro_rules | `(tactic| walk_at "set") => `(tactic| (first
  | (refine x_setO 0 (by assumption) (by with_unfolding_all rfl) (by with_unfolding_all rfl) ?_)
  | (refine x_setO 1 (by assumption) (by with_unfolding_all rfl) (by with_unfolding_all rfl) ?_)
  | (refine x_setO 2 (by assumption) (by with_unfolding_all rfl) (by with_unfolding_all rfl) ?_)
  | (refine x_setO 3 (by assumption) (by with_unfolding_all rfl) (by with_unfolding_all rfl) ?_)))
local macro_rules | `(tactic| walk_at "x") => `(tactic| repeat first | walk_at "x1" | walk_at "x2")
local macro_rules | `(tactic| walk_at "dr") => `(tactic| refine' x_draw (by assumption) (by decide) (by decide) ?_)
local macro_rules | `(tactic| walk_at "y1") => `(tactic| with_reducible first
  | refine' x_chain ?_
  | refine' x_iS ?_
  | refine' x_strE ?_)
local macro_rules | `(tactic| walk_at "y2") => `(tactic| first
  | ((with_reducible refine' x_lenS ?x_h ?_); (case x_h => first | assumption | omega)))
local macro_rules | `(tactic| walk_at "x") => `(tactic| repeat first | walk_at "x1" | walk_at "y1" | walk_at "x2" | walk_at "y2")
local macro_rules | `(tactic| walk_at "z1") => `(tactic| with_reducible first
  | refine' x_fld ?_
  | refine' x_sFld ?_
  | refine' x_fmt ?_
  | refine' x_make ?_
  | refine' x_makeN ?_
  | refine' x_js ?_
  | refine' x_js0 ?_
  | refine' x_ifE ?_)
local macro_rules | `(tactic| walk_at "x") => `(tactic| repeat first | walk_at "x1" | walk_at "y1" | walk_at "z1" | walk_at "x2" | walk_at "y2")
abbrev sMade : Stmt := (PySem.Challenge.pw_everydoor_k21_cases.main.body.getD 8 (.Pass ⟨0, 0, 0, 0⟩))
abbrev nMade : List Str := ["_law_source_here", "_law_parts", "_law_word", "_law_states", "_law_flag", "_law_rows", "_law_case", "_law_state"]
theorem scMade : FnScope nMade ["_law_source_here", "_law_parts"] (defScope sMade) := ⟨rfl, rfl, rfl, by decide +kernel, rfl, by decide +kernel, by decide +kernel⟩
def spMade (K : PySem.W.Frag) (C : Addr) : L2.Sp := fun vs H Q _ => ∃ (I : Hp) (M : List (Addr × HO)) (p : Addr) (px : V) (x : Parts), vs = [.ref p, px] ∧ Own H I M (SrcZ p) ∧ Rp K I px x ∧ PtOk 9 (10 ^ 31) x ∧
  ∀ r H' I', Same I I' → Own H' I' M (SrcZ p) → CaseAt K C I' r x.a x.b x.c → Q r H'
section
variable {P : Program} {w : World} {K : PySem.W.Frag} {mg : Str → Option Value} {base : Heap}
theorem ok_made {f C : Addr} {fd : FuncData} (F : Fun K "_law_made" "_law_made" sMade f fd) (T : Bi mg) (Ddraw : Df P w K mg base "_law_draw" 1 ["_law_source_here", "_law_limit"] spDraw) (DC : DCase P w K mg base C) :
    FnOk P w K mg base CX0 3 f fd ["_law_source_here", "_law_parts"] (spMade K C) := by
  obtain ⟨draw_f, draw_d, draw_g, draw_m, draw_k, draw_b⟩ := Ddraw.ex
  obtain ⟨fI, fdI, mCase, Case_g, Case_b, ⟨_, Case_d2, Case_b2⟩, ⟨_, Case_kb⟩⟩ := DC.init
  have Case_m := DC.m
  refine F.ok scMade (fun vs H Q E h => ?_) (fun cdv A outer s H vs Q E hr h => ?_)
  · obtain ⟨_, _, _, _, _, rfl, _⟩ := h
    rfl
  · obtain ⟨I, M, p, px, x, rfl, S, rx, ox, k⟩ := h
    refine ⟨_, (pss_cons (ps_asg (pv 1) (pg_tupK (K := K) (n := 3) rfl (pgs_cons (pg_name (i := 2) scMade.nd rfl (Or.inl rfl)) (pgs_cons (pg_name (i := 3) scMade.nd rfl (Or.inl rfl)) (pgs_cons (pg_name (i := 4) scMade.nd rfl (Or.inl rfl)) pgs_nil)))))
    (pss_cons (ps_setLc (own := [("_law_state", 7)]) (i := 5) rfl scMade.nd rfl rfl (sw_true rfl rfl rfl (by decide +kernel)) (pi_listK (K := K) (pv 3)) (blkOk_by (N := nMade) (sc := (defScope sMade)) (by decide +kernel)) (fun _ _ _ _ _ => (pg_name (i := 7) scMade.nd rfl (Or.inl rfl))) (fun _ _ _ _ _ => pts_nil) (fun _ _ _ _ _ => (pv 7)))
    (C8.pss_cut (ps_if (pt_cmpR op_eq (pe_call draw_g (hr.mono (by decide)) (by rfl) draw_m draw_k draw_b .nil pass0 (pa_cons (pv 0) (pa_cons pe_int pa_nil))) pe_int (nomark _))
      (pss_one (ps_setLc (own := [("_law_state", 7)]) (i := 5) rfl scMade.nd rfl rfl (sw_true rfl rfl rfl (by decide +kernel)) (pi_listK (K := K) (pv 3)) (blkOk_by (N := nMade) (sc := (defScope sMade)) (by decide +kernel)) (fun _ _ _ _ _ => (pg_name (i := 7) scMade.nd rfl (Or.inl rfl))) (fun _ _ _ _ _ => pts_nil) (fun _ _ _ _ _ => (pe_callTy (c_listOfK (K := K)) (by rfl) T.list_ (by decide +kernel) (pa_cons (pv 7) pa_nil)))))
      pss_nil)
    (C8.pss_cut (ps_if (pt_cmpR op_eq (pe_call draw_g (hr.mono (by decide)) (by rfl) draw_m draw_k draw_b .nil pass0 (pa_cons (pv 0) (pa_cons pe_int pa_nil))) pe_int (nomark _))
      (pss_one (ps_set (i := 6) scMade.nd rfl (Or.inl rfl) (pe_make mCase Case_g (hr.mono (by decide)) (by rfl) Case_m Case_b .nil pass0 (pa_cons (pv 2) (pa_cons (pv 5) (pa_cons (pv 4) pa_nil))))))
      (pss_one (ps_if (PW.pt (pw_or (pt_val (pv 4)) (pw_or1 (pt_cmpR op_eq (pe_call draw_g (hr.mono (by decide)) (by rfl) draw_m draw_k draw_b .nil pass0 (pa_cons (pv 0) (pa_cons pe_int pa_nil))) pe_int (nomark _)))))
        (pss_one (ps_set (i := 6) scMade.nd rfl (Or.inl rfl) (pe_makeN mCase Case_g (hr.mono (by decide)) (by rfl) Case_m Case_kb pass0 (pa_cons (pv 2) (pa_cons (pv 5) pa_nil)) (pk_cons (pv 4) pk_nil))))
        (pss_one (ps_set (i := 6) scMade.nd rfl (Or.inl rfl) (pe_make mCase Case_g (hr.mono (by decide)) (by rfl) Case_m Case_b2 Case_d2 pass0 (pa_cons (pv 2) (pa_cons (pv 5) pa_nil))))))))
    (pss_cons (ps_expr (pe_bmK (K := K) PySem.F.plainAttrs_list PySem.F.slot_list_append PySem.F.type_list_append mt_append (pv 5) (pa_cons (pe_tup (pa_cons pe_int (pa_cons pe_bl pa_nil))) pa_nil)))
    (pss_cons (ps_asg (pe_tup (pa_cons pe_int (pa_cons pe_bl pa_nil))) (pg_sub (pv 5) pe_int set_list))
    (pss_one (ps_ret (pv 6))))))))), ?_⟩
    try dsimp only [cxOf]
    obtain ⟨ww, st, b⟩ := x
    obtain ⟨a, w1, w2, w3, rfl, sa, r1, r2, r3⟩ := rx.t3
    have r1 : Rp K I w1 ww := r1
    have r2 : Rp K I w2 st := r2
    have r3 : Rp K I w3 b := r3
    obtain rfl := r1.str
    obtain rfl := r3.bool
    obtain ⟨la, vs, rfl, hla, rs⟩ := r2.list
    have hhi : st.length ≤ 8 := ox.hi
    have hlo : 1 ≤ st.length := ox.lo
    walk_at "x"
    refine x_lcL (l := st) S hla rs (fun i acc I2 => Rps K I2 acc ((st.take i).map fun y => RowE.t y.1 y.2)) Rps.nil ?_ ?_
    · rintro i y v acc D I2 H2 hy e ry S2 hl ra
      have hi := (List.getElem?_eq_some_iff.mp hy).1
      obtain ⟨a, u1, u2, rfl, sy, q1, q2⟩ := ry.pair
      obtain rfl := q1.int
      obtain rfl := q2.bool
      walk_at "x"
      refine ⟨rfl, ?_⟩
      walk_at "x"
      refine x_lcE e S2 hl (szl (by omega)) ?_
      rw [map_succ _ hy]
      exact ra.app (Rps.cons (RowE.mkT sy) Rps.nil)
    rintro r0 acc0 I1 H1 e1 S1 ra0
    rw [map_all] at ra0
    walk_at "x"
    refine x_cut (fun σ' H' => ∃ (r : Addr) (xs : List V) (rows : List RowE) (I' : Hp), σ' = [some (.ref p), some (.ref a), some (.str ww), some (.ref la), some (.bl b), some (.ref r), none, none] ∧ Same I I' ∧ Own H' I' ((r, .lst xs) :: M) (SrcZ p) ∧ Rps K I' xs rows ∧ rows.map RowE.val = st) ?_ ?_
    · walk_at "x"
      walk_at "dr"
      intro c H2 c0 c1 S2
      walk_at "x"
      refine x_ifD (fun _ => ?_) (fun _ => ?_)
      · walk_at "x"
        refine x_lcL (l := st) S2 (e1 _ _ hla) (rs.same e1) (fun i acc I2 => Rps K I2 acc ((st.take i).map fun y => RowE.l y.1 y.2)) Rps.nil ?_ ?_
        · rintro i y v acc D I2 H3 hy e ry S3 hl ra
          have hi := (List.getElem?_eq_some_iff.mp hy).1
          obtain ⟨a, u1, u2, rfl, sy, q1, q2⟩ := ry.pair
          obtain rfl := q1.int
          obtain rfl := q2.bool
          walk_at "x"
          refine ⟨rfl, ?_⟩
          walk_at "x"
          refine x_listI S3 (.inr (Same.seqT S3.imm sy)) (fun q I4 H4 e4 h4 S4 => ?_)
          refine x_lcE (e.trans e4) S4 hl (szl (by omega)) ?_
          rw [map_succ _ hy]
          exact (ra.same e4).app (Rps.cons (RowE.mkL h4) Rps.nil)
        · rintro r acc I2 H3 e2 S3 ra
          rw [map_all] at ra
          walk_at "x"
          refine ⟨r, acc, _, I2, rfl, e1.trans e2, S3.drop 1, ra, ?_⟩
          rw [List.map_map]
          exact (List.map_congr_left fun _ _ => rfl).trans (List.map_id _)
      · walk_at "x"
        refine ⟨r0, acc0, _, I1, rfl, e1, S2, ra0, ?_⟩
        rw [List.map_map]
        exact (List.map_congr_left fun _ _ => rfl).trans (List.map_id _)
    rintro σ1 H2 ⟨r, xs, rows, I2, rfl, e2, S2, rr, er⟩
    have hrl : rows.length = st.length := by rw [← er, List.length_map]
    have hsq : ∀ N I' H', Same I2 I' → Own H' I' (N ++ ((r, .lst xs) :: M)) (SrcZ p) → SqL K H' r xs := fun N I' H' _ S' => SqL.of (S'.get (i := N.length) (by simp))
    refine x_cut (fun σ' H' => ∃ (cv : V) (I' : Hp), σ' = [some (.ref p), some (.ref a), some (.str ww), some (.ref la), some (.bl b), some (.ref r), some cv, none] ∧ Same I I' ∧ Own H' I' ((r, .lst xs) :: M) (SrcZ p) ∧ CaseAt K C I' cv ww st b) ?_ ?_
    · walk_at "x"
      walk_at "dr"
      intro c H3 c0 c1 S3
      walk_at "x"
      refine x_ifD (fun _ => ?_) (fun _ => ?_)
      · walk_at "x"
        intro x dx h1 h2 h3
        refine case_make rfl S3 h1 h2 h3 hsq rr (by omega) (fun H4 I4 e4 c4 S4 => ?_)
        walk_at "x"
        rw [er] at c4
        exact ⟨_, I4, rfl, e2.trans e4, S4, c4⟩
      walk_at "x"
      cases b with
      | true =>
        walk_at "x"
        refine ⟨rfl, rfl, fun x dx h1 h2 h3 => ?_⟩
        refine case_make rfl S3 h1 h2 h3 hsq rr (by omega) (fun H4 I4 e4 c4 S4 => ?_)
        walk_at "x"
        rw [er] at c4
        exact ⟨_, I4, rfl, e2.trans e4, S4, c4⟩
      | false =>
        walk_at "x"
        walk_at "dr"
        intro c H4 c0 c1 S4
        walk_at "x"
        refine x_ifD (fun _ => ?_) (fun _ => ?_)
        · walk_at "x"
          refine ⟨rfl, rfl, fun x dx h1 h2 h3 => ?_⟩
          refine case_make rfl S4 h1 h2 h3 hsq rr (by omega) (fun H5 I5 e5 c5 S5 => ?_)
          walk_at "x"
          rw [er] at c5
          exact ⟨_, I5, rfl, e2.trans e5, S5, c5⟩
        · walk_at "x"
          intro x dx h1 h2 h3
          refine case_make rfl S4 h1 h2 h3 hsq rr (by omega) (fun H5 I5 e5 c5 S5 => ?_)
          walk_at "x"
          rw [er] at c5
          exact ⟨_, I5, rfl, e2.trans e5, S5, c5⟩
    rintro σ2 H3 ⟨cv, I3, rfl, e3, S3, cc⟩
    have hxl := rr.len
    walk_at "x"
    refine x_tupI S3 (show 2 ≤ sizeLine by decide) (fun t1 I4 H4 e4 h4 S4 => ?_)
    walk_at "x"
    refine x_appO 0 S4 rfl (szl (by omega)) (fun H5 S5 => ?_)
    walk_at "x"
    refine x_tupI S5 (show 2 ≤ sizeLine by decide) (fun t2 I6 H6 e6 h6 S6 => ?_)
    walk_at "x"
    have hix : ixN (xs ++ [V.ref t1]).length 0 = some 0 := by
      rw [List.length_append, List.length_singleton]
      unfold ixN
      rw [if_pos (by decide), if_pos (by omega)]
      rfl
    refine x_setO 0 S6 rfl hix (fun H7 S7 => ?_)
    walk_at "x"
    exact k _ _ _ (e3.trans (e4.trans e6)) (S7.drop 0) (cc.same (e4.trans e6))
end
end Dz

/-! The law of cases: what is asked of a case. -/
namespace Dz
open PySem L2
local macro_rules | `(tactic| walk_at "sm") => `(tactic| first | exact Same.refl _ | assumption | (refine' Same.trans ?_ (by assumption); walk_at "sm"))
local macro_rules | `(tactic| walk_at "own") => `(tactic| first
  | exact upd_same
  | assumption
  | (apply Own.get (i := 0); assumption; with_unfolding_all rfl)
  | (apply Own.get (i := 1); assumption; with_unfolding_all rfl)
  | (apply Own.get (i := 2); assumption; with_unfolding_all rfl)
  | (apply Own.get (i := 3); assumption; with_unfolding_all rfl)
  | (apply Own.get (i := 4); assumption; with_unfolding_all rfl)
  | (apply Own.get (i := 5); assumption; with_unfolding_all rfl))
local macro_rules | `(tactic| walk_at "fix") => `(tactic| first
  | assumption
  | (apply Own.imm; assumption; assumption)
  | (apply Own.imm; assumption; apply (show ∀ {I J : Hp}, Same I J → ∀ {a : Addr} {o : HO}, I a = some o → J a = some o from fun s _ _ e => s _ _ e); rotate_left; assumption; walk_at "sm"))
local macro_rules | `(tactic| walk_at "sq") => `(tactic| first
  | (apply SqL.of; walk_at "own")
  | (apply SqL.of; walk_at "fix")
  | (apply Same.seq; (apply Own.imm; assumption); first | assumption | (apply Same.seq; rotate_left; assumption; walk_at "sm")))
local macro_rules | `(tactic| walk_at "sqt") => `(tactic| first
  | (apply SqT.of; walk_at "own")
  | (apply SqT.of; walk_at "fix")
  | (apply Same.seqT; (apply Own.imm; assumption); first | assumption | (apply Same.seqT; rotate_left; assumption; walk_at "sm")))
local macro_rules | `(tactic| walk_at "ar") => `(tactic| first | assumption | omega | decide | exact wide_div (by assumption) (by assumption) (by decide) (by decide) | (constructor <;> omega) | (left; constructor <;> omega) | (right; constructor <;> omega))
local macro_rules | `(tactic| walk_at "x1") => `(tactic| with_reducible first
  | refine' x_seq ?_
  | refine' x_asg ?_
  | refine' x_name ?_
  | (refine' x_var ?x_h ?_; (case x_h => with_unfolding_all rfl))
  | refine' x_c ?_
  | refine' x_op ?_
  | refine' x_cons ?_
  | refine' x_nil ?_
  | refine' x_cb ?_
  | refine' x_ifS ?_
  | refine' x_test ?_
  | refine' x_and ?_
  | refine' x_or ?_
  | refine' x_not ?_
  | refine' x_bl ?_
  | refine' x_rI0 ?_
  | refine' x_eqI ?_
  | refine' x_neI ?_
  | refine' x_eqS ?_
  | refine' x_neS ?_
  | refine' x_eqB ?_
  | refine' x_neB ?_
  | refine' x_intI ?_
  | refine' x_intB ?_
  | refine' x_gSub ?_
  | refine' x_gCons ?_
  | refine' x_gNil ?_
  | refine' x_ret ?_
  | refine' x_retN ?_
  | refine' x_next ?_
  | refine' x_drop ?_
  | refine' x_call ?_
  | refine' x_sl ?_
  | refine' x_noPart ?_
  | refine' x_part ?_
  | refine' x_intE ?_
  | refine' x_tup ?_
  | refine' x_lst ?_
  | refine' x_iList ?_
  | refine' x_iTup ?_
  | refine' x_range1 ?_
  | refine' x_tdget ?_
  | refine' x_tdin ?_
  | refine' x_tdnotin ?_
  | refine' x_sdput ?_
  | refine' x_trev ?_
  | refine' x_for ?_
  | refine' x_lc ?_
  | refine' x_yes ?_
  | refine' x_un ?_
  | refine' x_bm ?_
  | refine' x_bm0 ?_
  | refine' x_tB ?_
  | refine' x_notV ?_
  | refine' x_andV ?_
  | refine' x_orV ?_
  | refine' x_ifE ?_
  | refine' x_isN ?_
  | refine' x_notN ?_
  | refine' x_inSg ?_
  | refine' x_notInSg ?_
  | refine' x_min2 ?_
  | refine' x_tyS ?_
  | refine' x_ifTrue ?_
  | refine' x_ifFalse ?_
  | refine' x_ifN ?_)
local macro_rules | `(tactic| walk_at "x2") => `(tactic| first
  | ((with_reducible refine' x_mod ?x_h ?_); (case x_h => walk_at "ar"))
  | ((with_reducible refine' x_rI ?x_h ?_); (case x_h => walk_at "ar"))
  | ((with_reducible refine' x_lenL ?x_h ?_); (case x_h => walk_at "sq"))
  | ((with_reducible refine' x_lenT ?x_h ?_); (case x_h => walk_at "sqt"))
  | ((with_reducible refine' x_ixL ?x_h ?x_a ?_); (case x_h => walk_at "sq"); (case x_a => first | with_unfolding_all rfl | assumption))
  | ((with_reducible refine' x_ixT ?x_h ?x_a ?_); (case x_h => walk_at "sqt"); (case x_a => first | with_unfolding_all rfl | assumption))
  | ((with_reducible refine' x_refL ?x_h ?_); (case x_h => walk_at "sq"))
  | ((with_reducible refine' x_refT ?x_h ?_); (case x_h => walk_at "sqt"))
  | ((with_reducible refine' x_gTup ?x_h ?x_a ?_); (case x_h => walk_at "sqt"); (case x_a => rfl))
  | ((with_reducible refine' x_tyL ?x_h ?_); (case x_h => walk_at "sq")))
local macro_rules | `(tactic| walk_at "set") => `(tactic| (first
  | (refine x_setO 0 (by assumption) (by with_unfolding_all rfl) (by with_unfolding_all rfl) ?_)
  | (refine x_setO 1 (by assumption) (by with_unfolding_all rfl) (by with_unfolding_all rfl) ?_)
  | (refine x_setO 2 (by assumption) (by with_unfolding_all rfl) (by with_unfolding_all rfl) ?_)
  | (refine x_setO 3 (by assumption) (by with_unfolding_all rfl) (by with_unfolding_all rfl) ?_)))
local macro_rules | `(tactic| walk_at "x") => `(tactic| repeat first | walk_at "x1" | walk_at "x2")
local macro_rules | `(tactic| walk_at "dr") => `(tactic| refine' x_draw (by assumption) (by decide) (by decide) ?_)
local macro_rules | `(tactic| walk_at "y1") => `(tactic| with_reducible first
  | refine' x_chain ?_
  | refine' x_iS ?_
  | refine' x_strE ?_)
local macro_rules | `(tactic| walk_at "y2") => `(tactic| first
  | ((with_reducible refine' x_lenS ?x_h ?_); (case x_h => first | assumption | omega)))
local macro_rules | `(tactic| walk_at "x") => `(tactic| repeat first | walk_at "x1" | walk_at "y1" | walk_at "x2" | walk_at "y2")
local macro_rules | `(tactic| walk_at "z1") => `(tactic| with_reducible first
  | refine' x_fld ?_
  | refine' x_sFld ?_
  | refine' x_fmt ?_
  | refine' x_make ?_
  | refine' x_makeN ?_
  | refine' x_js ?_
  | refine' x_js0 ?_
  | refine' x_ifE ?_)
local macro_rules | `(tactic| walk_at "x") => `(tactic| repeat first | walk_at "x1" | walk_at "y1" | walk_at "z1" | walk_at "x2" | walk_at "y2")
abbrev sRight : Stmt := (PySem.Challenge.pw_everydoor_k21_cases.main.body.getD 9 (.Pass ⟨0, 0, 0, 0⟩))
abbrev nRight : List Str := ["_law_case", "_law_parts", "_law_word", "_law_states", "_law_flag", "_law_text", "_law_state", "_law_row"]
theorem scRight : FnScope nRight ["_law_case", "_law_parts"] (defScope sRight) := ⟨rfl, rfl, rfl, by decide +kernel, rfl, by decide +kernel, by decide +kernel⟩
def spRight (K : PySem.W.Frag) (C : Addr) : L2.Sp := fun vs H Q _ => ∃ (I : Hp) (M : List (Addr × HO)) (Z : List (Addr × HO) → Prop) (cv px : V) (x : Parts), vs = [cv, px] ∧ Own H I M Z ∧ CaseAt K C I cv x.a x.b x.c ∧ Rp K I px x ∧ PtOk 9 (10 ^ 31) x ∧
  ∀ H' I', Same I I' → Own H' I' M Z → Q (.bl true) H'
theorem at_two {x y : Str} {b : Bool} : atI [V.str x, V.str y] (if b = true then 1 else 0) = some (.str (if b = true then y else x)) := by cases b <;> rfl
theorem item_two (x : Int × Bool) : Str.ofString (toString x.1) ++ (if x.2 = true then ("h" : Str) else "") = itemText x := by
  unfold itemText
  cases x.2
  · show Str.ofString (toString x.1) ++ "" = Str.ofString (toString x.1)
    exact sg_inj (by rw [sg_app]; show _ ++ [] = _; rw [List.append_nil])
  · rfl
theorem case_text (w : Str) (st : List (Int × Bool)) (b : Bool) (h : 1 ≤ st.length) : w ++ (if b = true then (" own " : Str) else " ") ++ Txt.join " " (st.map itemText) = caseText w st b := by
  unfold caseText
  cases st with
  | nil => simp at h
  | cons x r =>
    rw [TL.join_eq, TL.join_eq]
    cases b
    · rfl
    · have e : (" own " : Str) = " " ++ "own" ++ " " := by decide +kernel
      show w ++ (" own " : Str) ++ Str.join " " (itemText x :: r.map itemText) = w ++ " " ++ ("own" ++ " " ++ Str.join " " (itemText x :: r.map itemText))
      rw [e]
      refine sg_inj ?_
      simp only [sg_app, List.append_assoc]
section
variable {P : Program} {w : World} {K : PySem.W.Frag} {mg : Str → Option Value} {base : Heap}
theorem ok_right {f C : Addr} {fd : FuncData} (F : Fun K "_law_right" "_law_right" sRight f fd) (T : Bi mg) (DC : DCase P w K mg base C) : FnOk P w K mg base CX0 4 f fd ["_law_case", "_law_parts"] (spRight K C) := by
  obtain ⟨fL, fdL, Case_lg, Case_ol, Case_lb⟩ := DC.len
  obtain ⟨fS, fdS, Case_sg, Case_os, Case_sb⟩ := DC.str
  have TC := DC.T
  refine F.ok scRight (fun vs H Q E h => ?_) (fun cdv A outer s H vs Q E hr h => ?_)
  · obtain ⟨_, _, _, _, _, _, rfl, _⟩ := h
    rfl
  · obtain ⟨I, M, Z, cv, px, x, rfl, S, cc, rx, ox, k⟩ := h
    refine ⟨_, (pss_cons (ps_asg (pv 1) (pg_tupK (K := K) (n := 3) rfl (pgs_cons (pg_name (i := 2) scRight.nd rfl (Or.inl rfl)) (pgs_cons (pg_name (i := 3) scRight.nd rfl (Or.inl rfl)) (pgs_cons (pg_name (i := 4) scRight.nd rfl (Or.inl rfl)) pgs_nil)))))
    (pss_cons (ps_set (i := 5) scRight.nd rfl (Or.inl rfl) (pe_op o_addS (pe_op o_addS (pv 2) (pe_ix (ix_listK (K := K)) (pe_lst (pa_cons pe_str (pa_cons pe_str pa_nil))) (pe_callTy c_int (by rfl) T.int_ (by decide +kernel) (pa_cons (pv 4) pa_nil)) (fun _ _ => rfl))) (pe_bmK (K := K) PySem.F.plainAttrs_str PySem.F.slot_str_join PySem.F.type_str_join (m_joinK (K := K)) pe_str (pa_cons (pe_lc (own := [("_law_row", 7)]) rfl scRight.nd (pi_listK (K := K) (pv 3)) (blkOk_by (N := nRight) (sc := (defScope sRight)) (by decide +kernel)) (fun _ _ _ _ _ => (pg_name (i := 7) scRight.nd rfl (Or.inl rfl))) (fun _ _ _ _ _ => pts_nil) (fun _ _ _ _ _ => (pe_op o_addS (pe_callTy c_strI (by rfl) T.str_ (by decide +kernel) (pa_cons (pe_ix (ix_tupK (K := K)) (pv 7) pe_int (fun _ _ => rfl)) pa_nil)) (pe_ix (ix_listK (K := K)) (pe_lst (pa_cons pe_str (pa_cons pe_str pa_nil))) (pe_callTy c_int (by rfl) T.int_ (by decide +kernel) (pa_cons (pe_ix (ix_tupK (K := K)) (pv 7) pe_int (fun _ _ => rfl)) pa_nil)) (fun _ _ => rfl))))) pa_nil))))
    (pss_cons (ps_if (PW.pt (pw_or (pt_cmpR op_ne (pe_fldK (K := K) (pv 0)) (pv 2) (nomark _)) (pw_or (pt_cmpR (neDK (K := K) hr.units) (pe_fldK (K := K) (pv 0)) (pe_callTy (c_tupOfK (K := K)) (by rfl) T.tuple_ (by decide +kernel) (pa_cons (pv 3) pa_nil)) (nomark _)) (pw_or1 (pt_not (pt_val (pe_callB (c_isiK (K := K)) (by rfl) T.isinstance_ (by decide +kernel) (pa_cons (pe_fldK (K := K) (pv 0)) (pa_cons (pe_bltn (v := .ty "tuple") (by rfl) T.tuple_ (show bootBuiltins "tuple" = some (.type "tuple") by decide +kernel) (show RelV (.ty "tuple") (.type "tuple") from rfl)) pa_nil)))))))))
      (pss_one (ps_ret pe_bl))
      pss_nil)
    (pss_cons (ps_if (pt_cmpR (in_seqK (K := K)) pe_bl (pe_lc (own := [("_law_state", 6)]) rfl scRight.nd (pi_tupK (K := K) (pe_fldK (K := K) (pv 0))) (blkOk_by (N := nRight) (sc := (defScope sRight)) (by decide +kernel)) (fun _ _ _ _ _ => (pg_name (i := 6) scRight.nd rfl (Or.inl rfl))) (fun _ _ _ _ _ => pts_nil) (fun _ _ _ _ _ => (pe_and (pe_callB (c_isiK (K := K)) (by rfl) T.isinstance_ (by decide +kernel) (pa_cons (pv 6) (pa_cons (pe_bltn (v := .ty "tuple") (by rfl) T.tuple_ (show bootBuiltins "tuple" = some (.type "tuple") by decide +kernel) (show RelV (.ty "tuple") (.type "tuple") from rfl)) pa_nil))) (pe_one (pe_callB (c_isiK (K := K)) (by rfl) T.isinstance_ (by decide +kernel) (pa_cons (pe_ix (ix_tupK (K := K)) (pv 6) pe_int (fun _ _ => rfl)) (pa_cons (pe_bltn (v := .ty "bool") (by rfl) T.bool_ (show bootBuiltins "bool" = some (.type "bool") by decide +kernel) (show RelV (.ty "bool") (.type "bool") from rfl)) pa_nil))))))) (by rfl))
      (pss_one (ps_ret pe_bl))
      pss_nil)
    (pss_cons (ps_if (PW.pt (pw_or (pt_cmpR op_ne (pe_fldK (K := K) (pv 0)) (pv 4) (nomark _)) (pw_or1 (pt_not (pt_val (pe_callB (c_isiK (K := K)) (by rfl) T.isinstance_ (by decide +kernel) (pa_cons (pe_fldK (K := K) (pv 0)) (pa_cons (pe_bltn (v := .ty "bool") (by rfl) T.bool_ (show bootBuiltins "bool" = some (.type "bool") by decide +kernel) (show RelV (.ty "bool") (.type "bool") from rfl)) pa_nil))))))))
      (pss_one (ps_ret pe_bl))
      pss_nil)
    (pss_one (ps_ret (pe_and (pe_cmpR op_eq (pe_callB (c_lenO (K := K) Case_lg (hr.mono (by decide)) Case_ol Case_lb pass0) (by rfl) T.len_ PySem.boot_len (pa_cons (pv 0) pa_nil)) (pe_callB (c_lenK (K := K)) (by rfl) T.len_ PySem.boot_len (pa_cons (pv 3) pa_nil)) (nomark _)) (pe_one (pe_cmpR op_eq (pe_callTy (c_strO (K := K) Case_sg (hr.mono (by decide)) Case_os Case_sb pass0) (by rfl) T.str_ (by decide +kernel) (pa_cons (pv 0) pa_nil)) (pv 5) (nomark _))))))))))), ?_⟩
    try dsimp only [cxOf]
    obtain ⟨ww, st, b⟩ := x
    obtain ⟨a, w1, w2, w3, rfl, sa, r1, r2, r3⟩ := rx.t3
    have r1 : Rp K I w1 ww := r1
    have r2 : Rp K I w2 st := r2
    have r3 : Rp K I w3 b := r3
    obtain rfl := r1.str
    obtain rfl := r3.bool
    obtain ⟨la, vs, rfl, hla, rs⟩ := r2.list
    obtain ⟨c, dx, t, rfl, hc, rt⟩ := cc
    have hc : I c = some (.ins C dx (cf ww t b)) := hc
    have rt : Rp K I (.ref t) (Tu.mk st) := rt
    obtain ⟨t', ts, et, st', rts⟩ := rt.tu
    cases et
    have hhi : st.length ≤ 8 := ox.hi
    have hlo : 1 ≤ st.length := ox.lo
    have hwl : ww.length ≤ 9 := ox.wl
    have hrg : ∀ y ∈ st, 0 ≤ y.1 ∧ y.1 < 10 ^ 40 := fun y hy => ⟨(ox.rg y hy).1, Int.lt_of_lt_of_le (ox.rg y hy).2 (by decide)⟩
    walk_at "x"
    refine x_lstI S (show 2 ≤ sizeLine by decide) (fun q1 I1 H1 e1 h1 S1 => ?_)
    walk_at "x"
    refine x_ixL (SqL.of (S1.imm _ _ h1)) at_two ?_
    have eo : (if b = true then (" own " : Str) else " ").length ≤ 5 := by cases b <;> decide +kernel
    refine x_addS (sz (by omega)) ?_
    walk_at "x"
    refine x_lcL (l := st) S1 (e1 _ _ hla) (rs.same e1) (fun i acc _ => acc = ((st.take i).map itemText).map V.str) rfl ?_ ?_
    · rintro i y v acc D I2 H2 hy e ry S2 hl rfl
      have hi := (List.getElem?_eq_some_iff.mp hy).1
      have hyb := hrg y (List.mem_of_getElem? hy)
      obtain ⟨ya, u1, u2, rfl, sy, p1, p2⟩ := ry.pair
      obtain rfl := p1.int
      obtain rfl := p2.bool
      walk_at "x"
      refine ⟨rfl, ?_⟩
      walk_at "x"
      refine x_strI (log_ok hyb.1 hyb.2) ?_
      walk_at "x"
      refine x_lstI S2 (show 2 ≤ sizeLine by decide) (fun q3 I3 H3 e3 h3 S3 => ?_)
      walk_at "x"
      refine x_ixL (SqL.of (S3.imm _ _ h3)) at_two ?_
      have ht40 := PyProof.Rows.toString_length_le hyb.1 (k := 40) (by decide) hyb.2
      have eh : (if y.2 = true then ("h" : Str) else "").length ≤ 1 := by cases y.2 <;> decide +kernel
      refine x_addS (sz (by omega)) ?_
      rw [item_two]
      refine x_lcE (e.trans e3) S3 hl (szl (by omega)) ?_
      rw [map_succ _ hy, List.map_append]
      rfl
    rintro D acc I2 H2 e2 S2 rfl
    rw [map_all] at S2
    walk_at "x"
    have hsum : ((st.map itemText).map (·.length)).sum + (st.map itemText).length * (" " : Str).length ≤ 16777216 := by
      have h2 := StrLaws.sumLen_le (B := 41) (st.map itemText) (fun z hz => by
        obtain ⟨y, hy, rfl⟩ := List.mem_map.mp hz
        exact item_len (hrg y hy).1 (hrg y hy).2)
      have h3 : (" " : Str).length = 1 := by decide +kernel
      rw [h3]
      rw [List.length_map] at h2 ⊢
      omega
    refine x_joinL (SqL.of (S2.get (i := 0) rfl)) hsum ?_
    have hjl : (Txt.join " " (st.map itemText)).length ≤ 1000 := by
      rw [TL.join_eq]
      have h1 := StrLaws.join_length_le " " (st.map itemText)
      have h2 := StrLaws.sumLen_le (B := 41) (st.map itemText) (fun z hz => by
        obtain ⟨y, hy, rfl⟩ := List.mem_map.mp hz
        exact item_len (hrg y hy).1 (hrg y hy).2)
      have h3 : (" " : Str).length = 1 := by decide +kernel
      rw [h3] at h1
      rw [List.length_map] at h1 h2
      omega
    refine x_addS (sz (by rw [len_app]; omega)) ?_
    rw [case_text _ _ _ hlo]
    have S2 := S2.drop 0
    have E2 := e1.trans e2
    walk_at "x"
    refine x_fldI ((E2.trans S2.imm) _ _ hc) TC.cl TC.nd cf_door ?_
    walk_at "x"
    refine x_ifD (fun _ => ?_) (fun h => absurd rfl h)
    walk_at "x"
    refine x_fldI ((E2.trans S2.imm) _ _ hc) TC.cl TC.ns cf_states ?_
    walk_at "x"
    refine x_tupOfL S2 (SqL.of ((E2.trans S2.imm) _ _ hla)) (fun q4 I4 H4 e4 h4 S4 => ?_)
    have E4 := E2.trans e4
    refine x_neT (α := Tu (Int × Bool)) (x := Tu.mk st) (y := Tu.mk st) (rt.same (E4.trans S4.imm)) (Rp.mkTu (SqT.of (S4.imm _ _ h4)) (rs.same (E4.trans S4.imm))) (ok_st _) (ok_st _) ?_
    walk_at "x"
    refine x_ifD (fun _ => ?_) (fun h => absurd rfl h)
    walk_at "x"
    refine x_fldI ((E4.trans S4.imm) _ _ hc) TC.cl TC.ns cf_states ?_
    walk_at "x"
    refine x_isi (.ty "tuple") (ty_tup (Same.seqT (E4.trans S4.imm) st')) (kit_ty (r := true) (by decide +kernel)) ?_
    walk_at "x"
    refine x_fldI ((E4.trans S4.imm) _ _ hc) TC.cl TC.ns cf_states ?_
    walk_at "x"
    refine x_lcT (l := st) S4 (Same.seqT E4 st') (rts.same E4) (fun i acc _ => acc = (List.replicate i true).map V.bl) rfl ?_ ?_
    · rintro i y v acc D I5 H5 hy e5 ry S5 hl rfl
      have hi := (List.getElem?_eq_some_iff.mp hy).1
      obtain ⟨ya, u1, u2, rfl, sy, p1, p2⟩ := ry.pair
      obtain rfl := p1.int
      obtain rfl := p2.bool
      walk_at "x"
      refine ⟨rfl, ?_⟩
      walk_at "x"
      refine x_isi (.ty "tuple") (ty_tup (Same.seqT S5.imm sy)) (kit_ty (r := true) (by decide +kernel)) ?_
      walk_at "x"
      refine x_isi (.ty "bool") (.base (.bl _)) (kit_ty (r := true) (by decide +kernel)) ?_
      refine x_lcE e5 S5 hl (szl (by omega)) ?_
      rw [List.replicate_succ', List.map_append]
      rfl
    rintro D5 acc I5 H5 e5 S5 rfl
    refine x_inBls (SqL.of (S5.get (i := 0) rfl)) ?_
    have S5 := S5.drop 0
    have E5 := E4.trans e5
    walk_at "x"
    refine x_ifD (fun h => absurd (List.eq_of_mem_replicate h) (by decide)) (fun _ => ?_)
    walk_at "x"
    refine x_fldI ((E5.trans S5.imm) _ _ hc) TC.cl TC.no cf_own ?_
    walk_at "x"
    refine x_ifD (fun _ => ?_) (fun h => absurd rfl h)
    walk_at "x"
    refine x_fldI ((E5.trans S5.imm) _ _ hc) TC.cl TC.no cf_own ?_
    walk_at "x"
    refine x_isi (.ty "bool") (.base (.bl _)) (kit_ty (r := true) (by decide +kernel)) ?_
    walk_at "x"
    refine x_lenO ((E5.trans S5.imm) _ _ hc) ?_
    refine ⟨_, ww, st, b, rfl, ⟨c, dx, t, rfl, (E5.trans S5.imm) _ _ hc, rt.same (E5.trans S5.imm)⟩, _, rfl, by omega, by omega, ?_⟩
    walk_at "x"
    have hvl : vs.length = st.length := rs.len
    rw [hvl]
    refine x_ifD (fun _ => ?_) (fun h => absurd rfl h)
    walk_at "x"
    refine x_strO ((E5.trans S5.imm) _ _ hc) ?_
    refine ⟨I5, M, Z, _, ww, st, b, rfl, ⟨c, dx, t, rfl, E5 _ _ hc, rt.same E5⟩, S5, by omega, hhi, hrg, fun H6 I6 e6 S6 => ⟨_, rfl, ?_⟩⟩
    walk_at "x"
    rw [decide_eq_true rfl]
    exact k _ _ (E5.trans e6) S6
end
end Dz

/-! The law of cases. -/
namespace Dz
open PySem L2
local macro_rules | `(tactic| walk_at "sm") => `(tactic| first | exact Same.refl _ | assumption | (refine' Same.trans ?_ (by assumption); walk_at "sm"))
local macro_rules | `(tactic| walk_at "own") => `(tactic| first
  | exact upd_same
  | assumption
  | (apply Own.get (i := 0); assumption; with_unfolding_all rfl)
  | (apply Own.get (i := 1); assumption; with_unfolding_all rfl)
  | (apply Own.get (i := 2); assumption; with_unfolding_all rfl)
  | (apply Own.get (i := 3); assumption; with_unfolding_all rfl)
  | (apply Own.get (i := 4); assumption; with_unfolding_all rfl)
  | (apply Own.get (i := 5); assumption; with_unfolding_all rfl))
local macro_rules | `(tactic| walk_at "fix") => `(tactic| first
  | assumption
  | (apply Own.imm; assumption; assumption)
  | (apply Own.imm; assumption; apply (show ∀ {I J : Hp}, Same I J → ∀ {a : Addr} {o : HO}, I a = some o → J a = some o from fun s _ _ e => s _ _ e); rotate_left; assumption; walk_at "sm"))
local macro_rules | `(tactic| walk_at "sq") => `(tactic| first
  | (apply SqL.of; walk_at "own")
  | (apply SqL.of; walk_at "fix")
  | (apply Same.seq; (apply Own.imm; assumption); first | assumption | (apply Same.seq; rotate_left; assumption; walk_at "sm")))
local macro_rules | `(tactic| walk_at "sqt") => `(tactic| first
  | (apply SqT.of; walk_at "own")
  | (apply SqT.of; walk_at "fix")
  | (apply Same.seqT; (apply Own.imm; assumption); first | assumption | (apply Same.seqT; rotate_left; assumption; walk_at "sm")))
local macro_rules | `(tactic| walk_at "ar") => `(tactic| first | assumption | omega | decide | exact wide_div (by assumption) (by assumption) (by decide) (by decide) | (constructor <;> omega) | (left; constructor <;> omega) | (right; constructor <;> omega))
local macro_rules | `(tactic| walk_at "x1") => `(tactic| with_reducible first
  | refine' x_seq ?_
  | refine' x_asg ?_
  | refine' x_name ?_
  | (refine' x_var ?x_h ?_; (case x_h => with_unfolding_all rfl))
  | refine' x_c ?_
  | refine' x_op ?_
  | refine' x_cons ?_
  | refine' x_nil ?_
  | refine' x_cb ?_
  | refine' x_ifS ?_
  | refine' x_test ?_
  | refine' x_and ?_
  | refine' x_or ?_
  | refine' x_not ?_
  | refine' x_bl ?_
  | refine' x_rI0 ?_
  | refine' x_eqI ?_
  | refine' x_neI ?_
  | refine' x_eqS ?_
  | refine' x_neS ?_
  | refine' x_eqB ?_
  | refine' x_neB ?_
  | refine' x_intI ?_
  | refine' x_intB ?_
  | refine' x_gSub ?_
  | refine' x_gCons ?_
  | refine' x_gNil ?_
  | refine' x_ret ?_
  | refine' x_retN ?_
  | refine' x_next ?_
  | refine' x_drop ?_
  | refine' x_call ?_
  | refine' x_sl ?_
  | refine' x_noPart ?_
  | refine' x_part ?_
  | refine' x_intE ?_
  | refine' x_tup ?_
  | refine' x_lst ?_
  | refine' x_iList ?_
  | refine' x_iTup ?_
  | refine' x_range1 ?_
  | refine' x_tdget ?_
  | refine' x_tdin ?_
  | refine' x_tdnotin ?_
  | refine' x_sdput ?_
  | refine' x_trev ?_
  | refine' x_for ?_
  | refine' x_lc ?_
  | refine' x_yes ?_
  | refine' x_un ?_
  | refine' x_bm ?_
  | refine' x_bm0 ?_
  | refine' x_tB ?_
  | refine' x_notV ?_
  | refine' x_andV ?_
  | refine' x_orV ?_
  | refine' x_ifE ?_
  | refine' x_isN ?_
  | refine' x_notN ?_
  | refine' x_inSg ?_
  | refine' x_notInSg ?_
  | refine' x_min2 ?_
  | refine' x_tyS ?_
  | refine' x_ifTrue ?_
  | refine' x_ifFalse ?_
  | refine' x_ifN ?_)
local macro_rules | `(tactic| walk_at "x2") => `(tactic| first
  | ((with_reducible refine' x_mod ?x_h ?_); (case x_h => walk_at "ar"))
  | ((with_reducible refine' x_rI ?x_h ?_); (case x_h => walk_at "ar"))
  | ((with_reducible refine' x_lenL ?x_h ?_); (case x_h => walk_at "sq"))
  | ((with_reducible refine' x_lenT ?x_h ?_); (case x_h => walk_at "sqt"))
  | ((with_reducible refine' x_ixL ?x_h ?x_a ?_); (case x_h => walk_at "sq"); (case x_a => first | with_unfolding_all rfl | assumption))
  | ((with_reducible refine' x_ixT ?x_h ?x_a ?_); (case x_h => walk_at "sqt"); (case x_a => first | with_unfolding_all rfl | assumption))
  | ((with_reducible refine' x_refL ?x_h ?_); (case x_h => walk_at "sq"))
  | ((with_reducible refine' x_refT ?x_h ?_); (case x_h => walk_at "sqt"))
  | ((with_reducible refine' x_gTup ?x_h ?x_a ?_); (case x_h => walk_at "sqt"); (case x_a => rfl))
  | ((with_reducible refine' x_tyL ?x_h ?_); (case x_h => walk_at "sq")))
local macro_rules | `(tactic| walk_at "set") => `(tactic| (first
  | (refine x_setO 0 (by assumption) (by with_unfolding_all rfl) (by with_unfolding_all rfl) ?_)
  | (refine x_setO 1 (by assumption) (by with_unfolding_all rfl) (by with_unfolding_all rfl) ?_)
  | (refine x_setO 2 (by assumption) (by with_unfolding_all rfl) (by with_unfolding_all rfl) ?_)
  | (refine x_setO 3 (by assumption) (by with_unfolding_all rfl) (by with_unfolding_all rfl) ?_)))
local macro_rules | `(tactic| walk_at "x") => `(tactic| repeat first | walk_at "x1" | walk_at "x2")
local macro_rules | `(tactic| walk_at "dr") => `(tactic| refine' x_draw (by assumption) (by decide) (by decide) ?_)
local macro_rules | `(tactic| walk_at "y1") => `(tactic| with_reducible first
  | refine' x_chain ?_
  | refine' x_iS ?_
  | refine' x_strE ?_)
local macro_rules | `(tactic| walk_at "y2") => `(tactic| first
  | ((with_reducible refine' x_lenS ?x_h ?_); (case x_h => first | assumption | omega)))
local macro_rules | `(tactic| walk_at "x") => `(tactic| repeat first | walk_at "x1" | walk_at "y1" | walk_at "x2" | walk_at "y2")
local macro_rules | `(tactic| walk_at "z1") => `(tactic| with_reducible first
  | refine' x_fld ?_
  | refine' x_sFld ?_
  | refine' x_fmt ?_
  | refine' x_make ?_
  | refine' x_makeN ?_
  | refine' x_js ?_
  | refine' x_js0 ?_
  | refine' x_ifE ?_)
local macro_rules | `(tactic| walk_at "x") => `(tactic| repeat first | walk_at "x1" | walk_at "y1" | walk_at "z1" | walk_at "x2" | walk_at "y2")
abbrev sLaw : Stmt := (PySem.Challenge.pw_everydoor_k21_cases.main.body.getD 10 (.Pass ⟨0, 0, 0, 0⟩))
abbrev nLaw : List Str := ["_law_script", "_law_source_here", "_law_turn", "_law_parts", "_law_other_parts", "_law_case", "_law_other_here", "_law_expected", "_law_told", "_law_odd"]
theorem scLaw : FnScope nLaw ["_law_script"] (defScope sLaw) := ⟨rfl, rfl, rfl, by decide +kernel, rfl, by decide +kernel, by decide +kernel⟩
def spLaw (K : PySem.W.Frag) : L2.Sp := fun vs H Q _ => ∃ (a : Addr) (ns : List Int), vs = [.ref a] ∧ SqL K H a (ns.map V.int) ∧ ns.length ≤ 63 ∧ ∀ H', Q (.bl true) H'
theorem sub_str {K : PySem.W.Frag} {C : Addr} : PySem.W.subIn K (.type "str") (.ref C) = some false := by kernel_rfl
theorem sub_tuple {K : PySem.W.Frag} {C : Addr} : PySem.W.subIn K (.type "tuple") (.ref C) = some false := by kernel_rfl
theorem sub_none {K : PySem.W.Frag} {C : Addr} : PySem.W.subIn K (.type "NoneType") (.ref C) = some false := by kernel_rfl
theorem sub_int {K : PySem.W.Frag} {C : Addr} : PySem.W.subIn K (.type "int") (.ref C) = some false := by kernel_rfl
theorem sub_list {K : PySem.W.Frag} {C : Addr} : PySem.W.subIn K (.type "list") (.ref C) = some false := by kernel_rfl
theorem ok_parts {x : Parts} (h : Enc.ok x.a = true) : Enc.ok x = true := by
  show (Enc.ok x.a && (x.b.all (fun p => (true && true)) && true)) = true
  rw [h]
  simp
section
variable {P : Program} {w : World} {K : PySem.W.Frag} {mg : Str → Option Value} {base : Heap}
theorem ok_law {f C : Addr} {fd : FuncData} (F : Fun K "law" "law" sLaw f fd) (T : Bi mg) (Dsource : Df P w K mg base "_law_source" 1 ["_law_script"] (spSource K)) (Ddrawn : Df P w K mg base "_law_drawn" 2 ["_law_source_here"] (spDrawn K))
    (Dother : Df P w K mg base "_law_other" 2 ["_law_source_here", "_law_parts"] (spOther K)) (Dmade : Df P w K mg base "_law_made" 3 ["_law_source_here", "_law_parts"] (spMade K C)) (Dright : Df P w K mg base "_law_right" 4 ["_law_case", "_law_parts"] (spRight K C))
    (DC : DCase P w K mg base C) : FnOk P w K mg base CX0 5 f fd ["_law_script"] (spLaw K) := by
  obtain ⟨source_f, source_d, source_g, source_m, source_k, source_b⟩ := Dsource.ex; obtain ⟨drawn_f, drawn_d, drawn_g, drawn_m, drawn_k, drawn_b⟩ := Ddrawn.ex; obtain ⟨other_f, other_d, other_g, other_m, other_k, other_b⟩ := Dother.ex; obtain ⟨made_f, made_d, made_g, made_m, made_k, made_b⟩ := Dmade.ex; obtain ⟨right_f, right_d, right_g, right_m, right_k, right_b⟩ := Dright.ex
  obtain ⟨fS, fdS, Case_sg, Case_os, Case_sb⟩ := DC.str
  obtain ⟨fE, fdE, Case_eg, Case_oe, Case_eb⟩ := DC.eq
  have TC := DC.T
  refine F.ok scLaw (fun vs H Q E h => ?_) (fun cdv A outer s H vs Q E hr h => ?_)
  · obtain ⟨_, _, rfl, _⟩ := h
    rfl
  · obtain ⟨a, ns, rfl, hS, hn, k⟩ := h
    refine ⟨_, (pss_cons (ps_set (i := 1) scLaw.nd rfl (Or.inl rfl) (pe_call source_g (hr.mono (by decide)) (by rfl) source_m source_k source_b .nil pass0 (pa_cons (pv 0) pa_nil)))
    (pss_cons (ps_for PassesOwn.never rfl (pi_range1 (by rfl) T.range_ (pa_cons pe_int pa_nil)) (pg_name (i := 2) scLaw.nd rfl (Or.inl rfl))
      (pss_cons (ps_set (i := 3) scLaw.nd rfl (Or.inl rfl) (pe_call drawn_g (hr.mono (by decide)) (by rfl) drawn_m drawn_k drawn_b .nil pass0 (pa_cons (pv 1) pa_nil)))
      (pss_cons (ps_set (i := 4) scLaw.nd rfl (Or.inl rfl) (pe_call other_g (hr.mono (by decide)) (by rfl) other_m other_k other_b .nil pass0 (pa_cons (pv 1) (pa_cons (pv 3) pa_nil))))
      (pss_cons (ps_set (i := 5) scLaw.nd rfl (Or.inl rfl) (pe_call made_g (hr.mono (by decide)) (by rfl) made_m made_k made_b .nil pass0 (pa_cons (pv 1) (pa_cons (pv 3) pa_nil))))
      (pss_cons (ps_set (i := 6) scLaw.nd rfl (Or.inl rfl) (pe_call made_g (hr.mono (by decide)) (by rfl) made_m made_k made_b .nil pass0 (pa_cons (pv 1) (pa_cons (pv 4) pa_nil))))
      (pss_cons (ps_if (PW.pt (pw_or (pt_not (pt_val (pe_call right_g (hr.mono (by decide)) (by rfl) right_m right_k right_b .nil pass0 (pa_cons (pv 5) (pa_cons (pv 3) pa_nil))))) (pw_or (pt_not (pt_val (pe_call right_g (hr.mono (by decide)) (by rfl) right_m right_k right_b .nil pass0 (pa_cons (pv 6) (pa_cons (pv 4) pa_nil))))) (pw_or1 (pt_not (pt_val (pe_call right_g (hr.mono (by decide)) (by rfl) right_m right_k right_b .nil pass0 (pa_cons (pv 5) (pa_cons (pv 3) pa_nil)))))))))
        (pss_one (ps_ret pe_bl))
        pss_nil)
      (pss_cons (ps_set (i := 7) scLaw.nd rfl (Or.inl rfl) (pe_cmpR (eqDK (K := K) hr.units) (pv 3) (pv 4) (nomark _)))
      (pss_cons (ps_set (i := 8) scLaw.nd rfl (Or.inl rfl) (pe_lst (pa_cons (pe_cmpR (op_eqO (K := K) Case_eg (hr.mono (by decide)) Case_oe Case_eb pass0) (pv 5) (pv 6) (nomark _)) (pa_cons (pe_cmpR (op_eqO (K := K) Case_eg (hr.mono (by decide)) Case_oe Case_eb pass0) (pv 6) (pv 5) (nomark _)) (pa_cons (pe_not (pe_cmpR (op_neO (K := K) Case_eg (hr.mono (by decide)) Case_oe Case_eb pass0) (pv 5) (pv 6) (nomark _))) pa_nil)))))
      (pss_cons (ps_if (PW.pt (pw_or (pt_cmpR (neDK (K := K) hr.units) (pv 8) (pe_lst (pa_cons (pv 7) (pa_cons (pv 7) (pa_cons (pv 7) pa_nil)))) (nomark _)) (pw_or1 (pt_not (pt_val (pe_callB (c_isiK (K := K)) (by rfl) T.isinstance_ (by decide +kernel) (pa_cons (pe_ix (ix_listK (K := K)) (pv 8) pe_int (fun _ _ => rfl)) (pa_cons (pe_bltn (v := .ty "bool") (by rfl) T.bool_ (show bootBuiltins "bool" = some (.type "bool") by decide +kernel) (show RelV (.ty "bool") (.type "bool") from rfl)) pa_nil))))))))
        (pss_one (ps_ret pe_bl))
        pss_nil)
      (pss_one (ps_for PassesOwn.never rfl (pi_listK (K := K) (pe_lst (pa_cons (pe_callTy (c_strO (K := K) Case_sg (hr.mono (by decide)) Case_os Case_sb pass0) (by rfl) T.str_ (by decide +kernel) (pa_cons (pv 5) pa_nil)) (pa_cons (pe_fldK (K := K) (pv 5)) (pa_cons pe_non (pa_cons pe_int (pa_cons (pe_lst (pa_cons (pv 5) pa_nil)) pa_nil))))))) (pg_name (i := 9) scLaw.nd rfl (Or.inl rfl))
        (pss_one (ps_if (PW.pt (pw_or (pt_cmpR (op_eqO (K := K) Case_eg (hr.mono (by decide)) Case_oe Case_eb pass0) (pv 5) (pv 9) (nomark _)) (pw_or1 (pt_not (pt_cmpR (op_neO (K := K) Case_eg (hr.mono (by decide)) Case_oe Case_eb pass0) (pv 5) (pv 9) (nomark _))))))
          (pss_one (ps_ret pe_bl))
          pss_nil)))))))))))))
    (pss_one (ps_ret pe_bl)))), ?_⟩
    try dsimp only [cxOf]
    walk_at "x"
    refine ⟨H, [], a, ns, rfl, Own.of_same (Same.refl _), hS, hn, fun p H1 I1 e1 S1 => ?_⟩
    walk_at "x"
    refine x_rng1 (by decide) (by decide) ?_
    refine x_forR (n := 4) S1 (fun i σ' I' M' => ∃ v2 v3 v4 v5 v6 v7 v8 v9, M' = [] ∧ σ' = [some (.ref a), some (.ref p), v2, v3, v4, v5, v6, v7, v8, v9]) ⟨_, _, _, _, _, _, _, _, rfl, rfl⟩ ?_ ?_
    · rintro i σ' I0 M' H0 hi e0 S0 ⟨v2, v3, v4, v5, v6, v7, v8, v9, rfl, rfl⟩
      walk_at "x"
      refine ⟨I0, [], p, rfl, S0, fun r x H2 I2 e2 S2 rx ox => ?_⟩
      walk_at "x"
      refine ⟨I2, [], p, r, x, rfl, S2, rx, ox, fun r' y H3 I3 e3 S3 ry oy => ?_⟩
      walk_at "x"
      have rx := rx.same e3
      have ox9 : PtOk 9 (10 ^ 31) x := ox.up
      refine ⟨I3, [], p, r, x, rfl, S3, rx, ox9, fun c H4 I4 e4 S4 cx => ?_⟩
      walk_at "x"
      refine ⟨I4, [], p, r', y, rfl, S4, ry.same e4, oy, fun c' H5 I5 e5 S5 cy => ?_⟩
      have cx := cx.same e5
      have rx := rx.same (e4.trans e5)
      have ry := ry.same (e4.trans e5)
      walk_at "x"
      refine ⟨I5, [], _, c, r, x, rfl, S5, cx, rx, ox9, fun H6 I6 e6 S6 => ?_⟩
      walk_at "x"
      refine ⟨I6, [], _, c', r', y, rfl, S6, cy.same e6, ry.same e6, oy, fun H7 I7 e7 S7 => ?_⟩
      walk_at "x"
      refine ⟨I7, [], _, c, r, x, rfl, S7, cx.same (e6.trans e7), rx.same (e6.trans e7), ox9, fun H8 I8 e8 S8 => ?_⟩
      have E8 := (e6.trans e7).trans e8
      have cx := cx.same E8
      have cy := cy.same E8
      have rx := rx.same E8
      have ry := ry.same E8
      walk_at "x"
      obtain ⟨xw, xs, xb⟩ := x
      obtain ⟨yw, ys, yb⟩ := y
      refine x_eqT (α := Parts) (rx.same S8.imm) (ry.same S8.imm) (ok_parts ox.wk) (ok_parts oy.wk) ?_
      obtain ⟨cp, cdx, ct, rfl, hcp, rct⟩ := cx
      obtain ⟨dp, ddx, dt, rfl, hdp, rdt⟩ := cy
      have hcp : I8 cp = some (.ins C cdx (cf xw ct xb)) := hcp
      have hdp : I8 dp = some (.ins C ddx (cf yw dt yb)) := hdp
      have rct : Rp K I8 (.ref ct) (Tu.mk xs) := rct
      have rdt : Rp K I8 (.ref dt) (Tu.mk ys) := rdt
      have cA : ∀ {J : Hp}, Same I8 J → CaseAt K C J (.ref cp) xw xs xb := fun e => ⟨cp, cdx, ct, rfl, e _ _ hcp, rct.same e⟩
      have cB : ∀ {J : Hp}, Same I8 J → CaseAt K C J (.ref dp) yw ys yb := fun e => ⟨dp, ddx, dt, rfl, e _ _ hdp, rdt.same e⟩
      have ed : decide (xw = yw ∧ xs = ys ∧ xb = yb) = decide ((T3.mk xw xs xb : Parts) = T3.mk yw ys yb) := decide_eq_decide.mpr (by simp)
      have ed2 : decide (yw = xw ∧ ys = xs ∧ yb = xb) = decide ((T3.mk xw xs xb : Parts) = T3.mk yw ys yb) := decide_eq_decide.mpr ⟨fun h => by rw [h.1, h.2.1, h.2.2], fun h => by injection h with h1 h2 h3; exact ⟨h1.symm, h2.symm, h3.symm⟩⟩
      generalize decide ((T3.mk xw xs xb : Parts) = T3.mk yw ys yb) = d at ed ed2
      walk_at "x"
      refine x_eqO (S8.imm _ _ hcp) (TC.ty (S8.imm _ _ hdp)) nf_own ?_
      refine ⟨_, _, xw, xs, xb, rfl, cA S8.imm, .inl ⟨yw, ys, yb, cB S8.imm, _, rfl, ?_⟩⟩
      rw [ed]
      walk_at "x"
      refine x_eqO (S8.imm _ _ hdp) (TC.ty (S8.imm _ _ hcp)) nf_own ?_
      refine ⟨_, _, yw, ys, yb, rfl, cB S8.imm, .inl ⟨xw, xs, xb, cA S8.imm, _, rfl, ?_⟩⟩
      rw [ed2]
      walk_at "x"
      refine x_neO (S8.imm _ _ hcp) (TC.ty (S8.imm _ _ hdp)) nf_own ?_
      refine ⟨_, _, xw, xs, xb, rfl, cA S8.imm, .inl ⟨yw, ys, yb, cB S8.imm, _, rfl, ?_⟩⟩
      rw [ed]
      walk_at "x"
      rw [Bool.not_not]
      refine x_lstI S8 (show 3 ≤ sizeLine by decide) (fun q1 I9 H9 e9 h9 S9 => ?_)
      walk_at "x"
      refine x_lstI S9 (show 3 ≤ sizeLine by decide) (fun q2 I10 H10 e10 h10 S10 => ?_)
      have h9b := e10 _ _ h9
      refine x_neT (α := List Bool) (x := [d, d, d]) (y := [d, d, d]) (Rp.mkList (S10.imm _ _ h9b) (Rps.bools (l := [d, d, d]))) (Rp.mkList (S10.imm _ _ h10) (Rps.bools (l := [d, d, d]))) (by simp [Enc.ok]) (by simp [Enc.ok]) ?_
      walk_at "x"
      refine x_ifD (fun _ => ?_) (fun h => absurd rfl h)
      walk_at "x"
      refine x_isi (.ty "bool") (.base (.bl _)) (kit_ty (r := true) (by decide +kernel)) ?_
      walk_at "x"
      have E10 := e9.trans e10
      refine x_strO ((E10.trans S10.imm) _ _ hcp) ?_
      refine ⟨I10, [], _, _, xw, xs, xb, rfl, cA E10, S10, Nat.le_trans ox.wl (by decide), ox.hi, fun z hz => ⟨(ox.rg z hz).1, Int.lt_of_lt_of_le (ox.rg z hz).2 (by decide)⟩, fun H11 I11 e11 S11 => ⟨_, rfl, ?_⟩⟩
      have E11 := E10.trans e11
      walk_at "x"
      refine x_fldI ((E11.trans S11.imm) _ _ hcp) TC.cl TC.ns cf_states ?_
      walk_at "x"
      refine x_lstI S11 (show 1 ≤ sizeLine by decide) (fun q3 I12 H12 e12 h12 S12 => ?_)
      walk_at "x"
      refine x_lstI S12 (show 5 ≤ sizeLine by decide) (fun q4 I13 H13 e13 h13 S13 => ?_)
      have E13 := (E11.trans e12).trans e13
      obtain ⟨_, ts, et, st', rts⟩ := rct.tu
      cases et
      refine x_refL (SqL.of (S13.imm _ _ h13)) ?_
      refine for_list (K := K) (a := q4) (xs := _) (fun i σ' H' => ∃ v9 I', Same I13 I' ∧ Own H' I' [] (SrcZ p) ∧ σ' = [some (.ref a), some (.ref p), _, _, _, _, _, _, _, v9]) ⟨_, I13, Same.refl _, S13, rfl⟩ (fun i σ' H' _ ⟨_, I', e, S', _⟩ => SqL.of ((e.trans S'.imm) _ _ h13)) ?_ ?_
      · rintro j v σ' H' hv ⟨v9, I', e, S', rfl⟩
        have E14 := E13.trans (e.trans S'.imm)
        have odd : ∃ n : String, TyX K H' v (.type n) ∧ PySem.W.subIn K (.type n) (.ref C) = some false := by
          match j, hv with
          | 0, hv => cases hv; exact ⟨_, .base (.str _), sub_str⟩
          | 1, hv => cases hv; exact ⟨_, ty_tup (Same.seqT E14 st'), sub_tuple⟩
          | 2, hv => cases hv; exact ⟨_, .base .non, sub_none⟩
          | 3, hv => cases hv; exact ⟨_, .base (.int _), sub_int⟩
          | 4, hv => cases hv; exact ⟨_, .base (.lst ((e13.trans (e.trans S'.imm)) _ _ h12)), sub_list⟩
        obtain ⟨n, ty, hs⟩ := odd
        walk_at "x"
        refine x_eqO (E14 _ _ hcp) ty (nf_ty hs) ?_
        refine ⟨_, _, xw, xs, xb, rfl, cA E14, .inr ⟨_, ty, TC.kitN hs, _, rfl, ?_⟩⟩
        walk_at "x"
        refine x_neO (E14 _ _ hcp) ty (nf_ty hs) ?_
        refine ⟨_, _, xw, xs, xb, rfl, cA E14, .inr ⟨_, ty, TC.kitN hs, _, rfl, ?_⟩⟩
        walk_at "x"
        exact ⟨_, I', e, S', rfl⟩
      · rintro σ' H' ⟨v9, I', e, S', rfl⟩
        exact ⟨I', [], (((e0.trans e2).trans (e3.trans e4)).trans (e5.trans E8)).trans (E13.trans e), S', _, _, _, _, _, _, _, _, rfl, rfl⟩
    · rintro σ' I' M' H' e S' ⟨v2, v3, v4, v5, v6, v7, v8, v9, rfl, rfl⟩
      walk_at "x"
      exact k _
end
end Dz

namespace Dz
open PySem L2
theorem all_mk {l : PySem.W.OpenLaw} {w : World} {K : PySem.W.Frag} {h : Heap} {mg : Str → Option Value} {fa : Addr} (X : K.In h) (G : h.Ns mainGlobals mg) (hfa : mg "law" = some (.ref fa))
    {C : Addr}
    {fI : Addr} {odI anI : Option Addr} {slI : Array (Option Value)} {ocI kVI dcI pmI cdI ctI : Value}
    {TI : Addr} {nTI : Nat} {tcI : Value} {tdI : Option Addr} {tsI : Array (Option Value)}
    {fE : Addr} {odE anE : Option Addr} {slE : Array (Option Value)} {ocE kVE dcE pmE cdE ctE : Value}
    {fL : Addr} {odL anL : Option Addr} {slL : Array (Option Value)} {ocL kVL dcL pmL cdL ctL : Value}
    {fS : Addr} {odS anS : Option Addr} {slS : Array (Option Value)} {ocS kVS dcS pmS cdS ctS : Value}
    {fsource : Addr} {odsource ansource : Option Addr} {slsource : Array (Option Value)} {ocsource kVsource dcsource pmsource cdsource ctsource : Value}
    {fdraw : Addr} {oddraw andraw : Option Addr} {sldraw : Array (Option Value)} {ocdraw kVdraw dcdraw pmdraw cddraw ctdraw : Value}
    {fdrawn : Addr} {oddrawn andrawn : Option Addr} {sldrawn : Array (Option Value)} {ocdrawn kVdrawn dcdrawn pmdrawn cddrawn ctdrawn : Value}
    {fother : Addr} {odother another : Option Addr} {slother : Array (Option Value)} {ocother kVother dcother pmother cdother ctother : Value}
    {fmade : Addr} {odmade anmade : Option Addr} {slmade : Array (Option Value)} {ocmade kVmade dcmade pmmade cdmade ctmade : Value}
    {fright : Addr} {odright anright : Option Addr} {slright : Array (Option Value)} {ocright kVright dcright pmright cdright ctright : Value}
    {flaw : Addr} {odlaw anlaw : Option Addr} {sllaw : Array (Option Value)} {oclaw kVlaw dclaw pmlaw cdlaw ctlaw : Value}
    (aC : PySem.W.nsIn K mainGlobals "Case" = some (some (.ref C)))
    (aI : PySem.W.findIn K (.ref C) "__init__" = some (some (.ref fI)))
    (iI : PySem.W.isFn K (.ref fI) = true)
    (lI : K.lookup fI = some ⟨ocI, odI, .func (PySem.W.fnOf "__init__" "Case.__init__" (defArgs sCInit) (defBody sCInit) (defScope sCInit) (.ref TI) kVI dcI pmI anI cdI ctI), slI⟩)
    (tI : K.lookup TI = some ⟨tcI, tdI, .seq #[.bool false] nTI, tsI⟩)
    (cI : PySem.W.codeIn K cdI "Case.__init__" = true)
    (kI : PySem.W.keepIn K (.ref fI) = true)
    (aE : PySem.W.findIn K (.ref C) "__eq__" = some (some (.ref fE)))
    (iE : PySem.W.isFn K (.ref fE) = true)
    (lE : K.lookup fE = some ⟨ocE, odE, .func (PySem.W.fnOf "__eq__" "Case.__eq__" (defArgs sCEq) (defBody sCEq) (defScope sCEq) .none kVE dcE pmE anE cdE ctE), slE⟩)
    (cE : PySem.W.codeIn K cdE "Case.__eq__" = true)
    (kE : PySem.W.keepIn K (.ref fE) = true)
    (aL : PySem.W.findIn K (.ref C) "__len__" = some (some (.ref fL)))
    (iL : PySem.W.isFn K (.ref fL) = true)
    (lL : K.lookup fL = some ⟨ocL, odL, .func (PySem.W.fnOf "__len__" "Case.__len__" (defArgs sCLen) (defBody sCLen) (defScope sCLen) .none kVL dcL pmL anL cdL ctL), slL⟩)
    (cL : PySem.W.codeIn K cdL "Case.__len__" = true)
    (kL : PySem.W.keepIn K (.ref fL) = true)
    (aS : PySem.W.findIn K (.ref C) "__str__" = some (some (.ref fS)))
    (iS : PySem.W.isFn K (.ref fS) = true)
    (lS : K.lookup fS = some ⟨ocS, odS, .func (PySem.W.fnOf "__str__" "Case.__str__" (defArgs sCStr) (defBody sCStr) (defScope sCStr) .none kVS dcS pmS anS cdS ctS), slS⟩)
    (cS : PySem.W.codeIn K cdS "Case.__str__" = true)
    (kS : PySem.W.keepIn K (.ref fS) = true)
    (pgC : PySem.W.plainGet K C Str.empty = true)
    (hdC : PySem.W.hasDictIn K C = true)
    (poC : PySem.W.plainOver K C = true)
    (saC : PySem.W.findIn K (.ref C) "__setattr__" = some (some (.builtin "object.__setattr__")))
    (mkC : PySem.W.makesIn K C = true)
    (kcC : PySem.W.keepIn K (.ref C) = true)
    (haC : PySem.W.findIn K (.ref C) "__class__" = some (some (.builtin "object.__class__")))
    (hnC : PySem.W.specialIn K (.builtin "object.__class__") "__get__" = some (some (.builtin "getset_descriptor.__get__")))
    (htC : PySem.W.takesIn K (.builtin "object.__class__") = some true)
    (hmC : PySem.W.mroIn K C (.type "object") = some true)
    (c1C : PySem.W.isClsIn K C = true)
    (c2C : PySem.W.typeIn K (.ref C) = some (.type "type"))
    (neC : PySem.W.findIn K (.ref C) "__ne__" = some (some (.builtin "object.__ne__")))
    (ndoorC : PySem.W.findIn K (.ref C) "door" = some none)
    (nstatesC : PySem.W.findIn K (.ref C) "states" = some none)
    (nownC : PySem.W.findIn K (.ref C) "own" = some none)
    (asource : PySem.W.nsIn K mainGlobals "_law_source" = some (some (.ref fsource)))
    (lsource : K.lookup fsource = some ⟨ocsource, odsource, .func (PySem.W.fnOf "_law_source" "_law_source" (defArgs sSource) (defBody sSource) (defScope sSource) .none kVsource dcsource pmsource ansource cdsource ctsource), slsource⟩)
    (csource : PySem.W.codeIn K cdsource "_law_source" = true)
    (ksource : PySem.W.keepIn K (.ref fsource) = true)
    (adraw : PySem.W.nsIn K mainGlobals "_law_draw" = some (some (.ref fdraw)))
    (ldraw : K.lookup fdraw = some ⟨ocdraw, oddraw, .func (PySem.W.fnOf "_law_draw" "_law_draw" (defArgs sDraw) (defBody sDraw) (defScope sDraw) .none kVdraw dcdraw pmdraw andraw cddraw ctdraw), sldraw⟩)
    (cdraw : PySem.W.codeIn K cddraw "_law_draw" = true)
    (kdraw : PySem.W.keepIn K (.ref fdraw) = true)
    (adrawn : PySem.W.nsIn K mainGlobals "_law_drawn" = some (some (.ref fdrawn)))
    (ldrawn : K.lookup fdrawn = some ⟨ocdrawn, oddrawn, .func (PySem.W.fnOf "_law_drawn" "_law_drawn" (defArgs sDrawn) (defBody sDrawn) (defScope sDrawn) .none kVdrawn dcdrawn pmdrawn andrawn cddrawn ctdrawn), sldrawn⟩)
    (cdrawn : PySem.W.codeIn K cddrawn "_law_drawn" = true)
    (kdrawn : PySem.W.keepIn K (.ref fdrawn) = true)
    (aother : PySem.W.nsIn K mainGlobals "_law_other" = some (some (.ref fother)))
    (lother : K.lookup fother = some ⟨ocother, odother, .func (PySem.W.fnOf "_law_other" "_law_other" (defArgs sOther) (defBody sOther) (defScope sOther) .none kVother dcother pmother another cdother ctother), slother⟩)
    (cother : PySem.W.codeIn K cdother "_law_other" = true)
    (kother : PySem.W.keepIn K (.ref fother) = true)
    (amade : PySem.W.nsIn K mainGlobals "_law_made" = some (some (.ref fmade)))
    (lmade : K.lookup fmade = some ⟨ocmade, odmade, .func (PySem.W.fnOf "_law_made" "_law_made" (defArgs sMade) (defBody sMade) (defScope sMade) .none kVmade dcmade pmmade anmade cdmade ctmade), slmade⟩)
    (cmade : PySem.W.codeIn K cdmade "_law_made" = true)
    (kmade : PySem.W.keepIn K (.ref fmade) = true)
    (aright : PySem.W.nsIn K mainGlobals "_law_right" = some (some (.ref fright)))
    (lright : K.lookup fright = some ⟨ocright, odright, .func (PySem.W.fnOf "_law_right" "_law_right" (defArgs sRight) (defBody sRight) (defScope sRight) .none kVright dcright pmright anright cdright ctright), slright⟩)
    (cright : PySem.W.codeIn K cdright "_law_right" = true)
    (kright : PySem.W.keepIn K (.ref fright) = true)
    (alaw : PySem.W.nsIn K mainGlobals "law" = some (some (.ref flaw)))
    (llaw : K.lookup flaw = some ⟨oclaw, odlaw, .func (PySem.W.fnOf "law" "law" (defArgs sLaw) (defBody sLaw) (defScope sLaw) .none kVlaw dclaw pmlaw anlaw cdlaw ctlaw), sllaw⟩)
    (claw : PySem.W.codeIn K cdlaw "law" = true)
    (klaw : PySem.W.keepIn K (.ref flaw) = true)
    (zint : PySem.W.nsIn K mainGlobals "int" = some none)
    (zlen : PySem.W.nsIn K mainGlobals "len" = some none)
    (zrange : PySem.W.nsIn K mainGlobals "range" = some none)
    (zstr : PySem.W.nsIn K mainGlobals "str" = some none)
    (zbool : PySem.W.nsIn K mainGlobals "bool" = some none)
    (zlist : PySem.W.nsIn K mainGlobals "list" = some none)
    (ztuple : PySem.W.nsIn K mainGlobals "tuple" = some none)
    (zdict : PySem.W.nsIn K mainGlobals "dict" = some none)
    (zset : PySem.W.nsIn K mainGlobals "set" = some none)
    (zisinstance : PySem.W.nsIn K mainGlobals "isinstance" = some none)
    (zall : PySem.W.nsIn K mainGlobals "all" = some none)
    (zany : PySem.W.nsIn K mainGlobals "any" = some none)
    (zmin : PySem.W.nsIn K mainGlobals "min" = some none)
    (zmax : PySem.W.nsIn K mainGlobals "max" = some none)
    (zsorted : PySem.W.nsIn K mainGlobals "sorted" = some none)
    (zenumerate : PySem.W.nsIn K mainGlobals "enumerate" = some none)
    (zabs : PySem.W.nsIn K mainGlobals "abs" = some none)
    (zsum : PySem.W.nsIn K mainGlobals "sum" = some none)
    (zzip : PySem.W.nsIn K mainGlobals "zip" = some none)
    (zreversed : PySem.W.nsIn K mainGlobals "reversed" = some none)
    (zsuper : PySem.W.nsIn K mainGlobals "super" = some none)
    : ∃ fd : FuncData, (∀ (s : Shared) (v : Value), BindsTo s fd ⟨[v], []⟩ [("_law_script", v)]) ∧ ∀ base : Heap, K.In base → base.Ns mainGlobals mg → FnOk l.prog w K mg base CX0 5 fa fd ["_law_script"] (spLaw K) := by
  have e := hfa.symm.trans (PySem.W.mg_of X G alaw)
  cases e
  have T : Bi mg := ⟨PySem.W.mg_none_of X G zint, PySem.W.mg_none_of X G zlen, PySem.W.mg_none_of X G zrange, PySem.W.mg_none_of X G zstr, PySem.W.mg_none_of X G zbool, PySem.W.mg_none_of X G zlist, PySem.W.mg_none_of X G ztuple, PySem.W.mg_none_of X G zdict, PySem.W.mg_none_of X G zset, PySem.W.mg_none_of X G zisinstance, PySem.W.mg_none_of X G zall, PySem.W.mg_none_of X G zany, PySem.W.mg_none_of X G zmin, PySem.W.mg_none_of X G zmax, PySem.W.mg_none_of X G zsorted, PySem.W.mg_none_of X G zenumerate, PySem.W.mg_none_of X G zabs, PySem.W.mg_none_of X G zsum, PySem.W.mg_none_of X G zzip, PySem.W.mg_none_of X G zreversed, PySem.W.mg_none_of X G zsuper⟩
  have TC : ClC K C := ⟨⟨pgC, hdC, poC, saC⟩, ndoorC, nstatesC, nownC, haC, hnC, htC, hmC, c1C, c2C⟩
  have mC : mg "Case" = some (.ref C) := PySem.W.mg_of X G aC
  have FI : FunD K "__init__" "Case.__init__" (defArgs sCInit) (defBody sCInit) (defScope sCInit) [.bl false] [] fI (PySem.W.fnOf "__init__" "Case.__init__" (defArgs sCInit) (defBody sCInit) (defScope sCInit) (.ref TI) kVI dcI pmI anI cdI ctI) :=
    ⟨⟨_, _, _, _, _, _, _, _, _, _, rfl, lI, cI, .inr ⟨by simp, TI, _, [.bool false], _, rfl, tI, rfl, .cons rfl .nil⟩, .inl rfl⟩, kI⟩
  have bI : Binds K (PySem.W.fnOf "__init__" "Case.__init__" (defArgs sCInit) (defBody sCInit) (defScope sCInit) (.ref TI) kVI dcI pmI anI cdI ctI) ["self", "door", "states", "own"] [] := by
    obtain ⟨ds, r, b⟩ := FI.binds1 (ps := ["self", "door", "states", "own"]) 4 1 (by simp) rfl fun _ _ _ _ _ _ _ us its h1 h2 => match us, its, h1, h2 with | [_, _, _, _], [_], _, _ => ⟨_, rfl, rfl⟩
    cases r
    exact b
  have bI2 := FI.binds1 (ps := ["self", "door", "states", "own"]) 3 0 (by simp) rfl fun _ _ _ _ _ _ _ us its h1 h2 => match us, its, h1, h2 with | [_, _, _], [_], _, _ => ⟨_, rfl, rfl⟩
  obtain ⟨_, bIk⟩ := FI.kbindsD (ps := ["self", "door", "states", "own"]) 3 ["own"] (fun us _ ws => us ++ ws) (by simp) (fun r1 _ r3 => r1.append r3) fun _ _ _ _ _ _ _ us its ws h1 h2 h3 => match us, its, ws, h1, h2, h3 with | [_, _, _], [_], [_], _, _, _ => ⟨_, rfl, rfl⟩
  have FE := fun_mk (st := sCEq) lE cE kE
  have FL := fun_mk (st := sCLen) lL cL kL
  have FS := fun_mk (st := sCStr) lS cS kS
  have bE := FE.binds (ps := ["self", "other"]) fun _ _ _ _ _ _ us hl => match us, hl with | [_, _], _ => rfl
  have bL := FL.binds (ps := ["self"]) fun _ _ _ _ _ _ us hl => match us, hl with | [_], _ => rfl
  have bS := FS.binds (ps := ["self"]) fun _ _ _ _ _ _ us hl => match us, hl with | [_], _ => rfl
  have DC : ∀ base : Heap, DCase l.prog w K mg base C := fun base => ⟨TC, mC, ⟨_, _, ⟨mkC, aI, iI, kcC⟩, ok_Case_init FI T TC, bI, bI2, ⟨_, bIk⟩⟩, ⟨_, _, ok_Case_eq FE T TC mC, ⟨aE, neC, iE, hmC⟩, bE⟩, ⟨_, _, ok_Case_len FL T TC, ⟨aL, iL, kL⟩, bL⟩, ⟨_, _, ok_Case_str FS T TC, ⟨aS, iS, kS⟩, bS⟩⟩
  have Fsource := fun_mk (st := sSource) lsource csource ksource
  have bsource := Fsource.binds (ps := ["_law_script"]) fun _ _ _ _ _ _ us hl => match us, hl with | [_], _ => rfl
  have Fdraw := fun_mk (st := sDraw) ldraw cdraw kdraw
  have bdraw := Fdraw.binds (ps := ["_law_source_here", "_law_limit"]) fun _ _ _ _ _ _ us hl => match us, hl with | [_, _], _ => rfl
  have Fdrawn := fun_mk (st := sDrawn) ldrawn cdrawn kdrawn
  have bdrawn := Fdrawn.binds (ps := ["_law_source_here"]) fun _ _ _ _ _ _ us hl => match us, hl with | [_], _ => rfl
  have Fother := fun_mk (st := sOther) lother cother kother
  have bother := Fother.binds (ps := ["_law_source_here", "_law_parts"]) fun _ _ _ _ _ _ us hl => match us, hl with | [_, _], _ => rfl
  have Fmade := fun_mk (st := sMade) lmade cmade kmade
  have bmade := Fmade.binds (ps := ["_law_source_here", "_law_parts"]) fun _ _ _ _ _ _ us hl => match us, hl with | [_, _], _ => rfl
  have Fright := fun_mk (st := sRight) lright cright kright
  have bright := Fright.binds (ps := ["_law_case", "_law_parts"]) fun _ _ _ _ _ _ us hl => match us, hl with | [_, _], _ => rfl
  have Dsource : ∀ base : Heap, Df l.prog w K mg base "_law_source" 1 ["_law_script"] (spSource K) := fun base => ⟨_, _, ok_source Fsource T, PySem.W.mg_of X G asource, ksource, bsource⟩
  have Ddraw : ∀ base : Heap, Df l.prog w K mg base "_law_draw" 1 ["_law_source_here", "_law_limit"] spDraw := fun base => ⟨_, _, ok_draw Fdraw T, PySem.W.mg_of X G adraw, kdraw, bdraw⟩
  have Ddrawn : ∀ base : Heap, Df l.prog w K mg base "_law_drawn" 2 ["_law_source_here"] (spDrawn K) := fun base => ⟨_, _, ok_drawn Fdrawn T (Ddraw base), PySem.W.mg_of X G adrawn, kdrawn, bdrawn⟩
  have Dother : ∀ base : Heap, Df l.prog w K mg base "_law_other" 2 ["_law_source_here", "_law_parts"] (spOther K) := fun base => ⟨_, _, ok_other Fother T (Ddraw base), PySem.W.mg_of X G aother, kother, bother⟩
  have Dmade : ∀ base : Heap, Df l.prog w K mg base "_law_made" 3 ["_law_source_here", "_law_parts"] (spMade K C) := fun base => ⟨_, _, ok_made Fmade T (Ddraw base) (DC base), PySem.W.mg_of X G amade, kmade, bmade⟩
  have Dright : ∀ base : Heap, Df l.prog w K mg base "_law_right" 4 ["_law_case", "_law_parts"] (spRight K C) := fun base => ⟨_, _, ok_right Fright T (DC base), PySem.W.mg_of X G aright, kright, bright⟩
  exact ⟨_, fun s v => .of_eq rfl, fun base _ _ => ok_law (fun_mk (st := sLaw) llaw claw klaw) T (Dsource base) (Ddrawn base) (Dother base) (Dmade base) (Dright base) (DC base)⟩
theorem walk {l : PySem.W.OpenLaw} {q : Program} {loose : List Str} {XP : (Str → Option Value) → Heap → Prop} {YP : World → Heap → Prop} {d : DefRec} {K : Params → PySem.W.Frag} (hn : l.most = some 63) (hdf : d.params.defaults = [])
    (hY : ∀ (w : World) (h : Heap), YP w h → (K w.params).In h)
    (F : ∀ (w : World) (mg : Str → Option Value) (fa : Addr) (h : Heap), (K w.params).In h → h.Ns mainGlobals mg → mg d.name = some (.ref fa) →
      ∃ fd : FuncData, (∀ (s : Shared) (u : Value), BindsTo s fd ⟨[u], []⟩ [("_law_script", u)]) ∧ ∀ base : Heap, (K w.params).In base → base.Ns mainGlobals mg → FnOk l.prog w (K w.params) mg base CX0 5 fa fd ["_law_script"] (spLaw (K w.params))) :
    PySem.W.WalkO q loose XP YP l.row.toRowW d [] (fun f vs => PySem.call f vs) :=
  L2.walk_of (n := 63) (k := 5) (x := "_law_script") (CX := fun _ => CX0) (sp := fun w => spLaw (K w.params)) hn (by decide) hdf ⟨rfl, by decide, by decide⟩ hY F (fun _ _ a ns hl _ hS => ⟨a, ns, rfl, hS, hl, fun _ => rfl⟩) fun _ _ _ _ _ z => z
end Dz

open PySem PySem.W PyProof.Rows in
set_option maxRecDepth 100000 in
set_option maxHeartbeats 0 in
theorem PySem.Challenge.cw_everydoor_k21_cases_holds : PySem.Challenge.rw_everydoor_k21_cases.Holds := by
  w_on; o_law; k_head; (case hw => w_witness2)
  k_fill
  refine Dz.walk (l := PySem.Challenge.rw_everydoor_k21_cases) rfl rfl (fun w h Y => PySem.W.kIn_of Y) ?F
  case F =>
    intro w mg fa h KX G hmg
    refine' Dz.all_mk KX G hmg ?aC ?aI ?iI ?lI ?tI ?cI ?kI ?aE ?iE ?lE ?cE ?kE ?aL ?iL ?lL ?cL ?kL ?aS ?iS ?lS ?cS ?kS ?pgC ?hdC ?poC ?saC ?mkC ?kcC ?haC ?hnC ?htC ?hmC ?c1C ?c2C ?neC ?ndoorC ?nstatesC ?nownC ?asource ?lsource ?csource ?ksource ?adraw ?ldraw ?cdraw ?kdraw ?adrawn ?ldrawn ?cdrawn ?kdrawn ?aother ?lother ?cother ?kother ?amade ?lmade ?cmade ?kmade ?aright ?lright ?cright ?kright ?alaw ?llaw ?claw ?klaw ?zint ?zlen ?zrange ?zstr ?zbool ?zlist ?ztuple ?zdict ?zset ?zisinstance ?zall ?zany ?zmin ?zmax ?zsorted ?zenumerate ?zabs ?zsum ?zzip ?zreversed ?zsuper
    (case aC => k_is)
    (case aI => k_is)
    (case iI => k_is)
    (case lI => k_is)
    (case tI => k_is)
    (case cI => k_is)
    (case kI => k_is)
    (case aE => k_is)
    (case iE => k_is)
    (case lE => k_is)
    (case cE => k_is)
    (case kE => k_is)
    (case aL => k_is)
    (case iL => k_is)
    (case lL => k_is)
    (case cL => k_is)
    (case kL => k_is)
    (case aS => k_is)
    (case iS => k_is)
    (case lS => k_is)
    (case cS => k_is)
    (case kS => k_is)
    (case pgC => k_is)
    (case hdC => k_is)
    (case poC => k_is)
    (case saC => k_is)
    (case mkC => k_is)
    (case kcC => k_is)
    (case haC => k_is)
    (case hnC => k_is)
    (case htC => k_is)
    (case hmC => k_is)
    (case c1C => k_is)
    (case c2C => k_is)
    (case neC => k_is)
    (case ndoorC => k_is)
    (case nstatesC => k_is)
    (case nownC => k_is)
    (case asource => k_is)
    (case lsource => k_is)
    (case csource => k_is)
    (case ksource => k_is)
    (case adraw => k_is)
    (case ldraw => k_is)
    (case cdraw => k_is)
    (case kdraw => k_is)
    (case adrawn => k_is)
    (case ldrawn => k_is)
    (case cdrawn => k_is)
    (case kdrawn => k_is)
    (case aother => k_is)
    (case lother => k_is)
    (case cother => k_is)
    (case kother => k_is)
    (case amade => k_is)
    (case lmade => k_is)
    (case cmade => k_is)
    (case kmade => k_is)
    (case aright => k_is)
    (case lright => k_is)
    (case cright => k_is)
    (case kright => k_is)
    (case alaw => k_is)
    (case llaw => k_is)
    (case claw => k_is)
    (case klaw => k_is)
    (case zint => k_is)
    (case zlen => k_is)
    (case zrange => k_is)
    (case zstr => k_is)
    (case zbool => k_is)
    (case zlist => k_is)
    (case ztuple => k_is)
    (case zdict => k_is)
    (case zset => k_is)
    (case zisinstance => k_is)
    (case zall => k_is)
    (case zany => k_is)
    (case zmin => k_is)
    (case zmax => k_is)
    (case zsorted => k_is)
    (case zenumerate => k_is)
    (case zabs => k_is)
    (case zsum => k_is)
    (case zzip => k_is)
    (case zreversed => k_is)
    (case zsuper => k_is)
