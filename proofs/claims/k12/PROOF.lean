import PyProof.Rows.All
import Wide.All
import OpenK.AllK
import Wide.FinOn
import HandS.ForMost
import HandS.Wide
import HandS.Codes
import HandS.Style
import HandS.NoneIn
import HandS.Exc
import HandS.Comp
import HandS.ExcInit
import HandS.WordsExc
import HandS.IsInst
import HandS.OwnEq
import HandS.MakeKw
import HandS.FStr
import HandS.NamedTupGet
import KE.KFmtOwn
import PyProof.InstEq
import HandS.ExcSuper
import HandS.Nested
import HandS.ClsMeth
import KE.KExcSuper
import KE.KSuper
import HandS.WordsDict
import HandS.Dict
import HandS.ExcOwn
import HandS.ExcField
import HandS.Defaults
import HandS.DictEq
import HandS.DeepEq
import HandS.DictComp
import PySem.Challenge.RW_everydoor_k12_orders_by_other_names
set_option Elab.async false
set_option linter.all false
set_option maxRecDepth 100000
set_option maxHeartbeats 2000000
/-! The heap in two parts: what stands still (I), what is owned and changes (M, Z hidden). -/
namespace Dz
open PySem L2

structure Own0 (H I : Hp) (M : List (Addr × HO)) : Prop where
  imm : Same I H
  cel : ∀ p ∈ M, H p.1 = some p.2 ∧ I p.1 = none
  nd : (M.map (·.1)).Nodup

def Own (H I : Hp) (M : List (Addr × HO)) (Z : List (Addr × HO) → Prop) : Prop := ∃ N, Z N ∧ Own0 H I (M ++ N)
abbrev Z0 : List (Addr × HO) → Prop := fun N => N = []

theorem Own0.ne {H I : Hp} {M : List (Addr × HO)} {p : Addr} (S : Own0 H I M) (hp : H p = none) : (∀ q ∈ M, q.1 ≠ p) ∧ I p = none := by
  refine ⟨fun q hq e => ?_, ?_⟩
  · have h := (S.cel q hq).1
    rw [e, hp] at h
    cases h
  · cases h : I p with
    | none => rfl
    | some o =>
      have := S.imm _ _ h
      rw [hp] at this
      cases this

theorem same_upd {I : Hp} {p : Addr} {o : HO} (h : I p = none) : Same I (upd I p o) := fun b u e => by
  rw [upd_ne (ne_of_none e h)]
  exact e

theorem Own0.alloc {H I : Hp} {M : List (Addr × HO)} {p : Addr} {o : HO} (S : Own0 H I M) (hp : H p = none) : Own0 (upd H p o) (upd I p o) M := by
  obtain ⟨hne, hI⟩ := S.ne hp
  refine ⟨fun b u e => ?_, fun q hq => ?_, S.nd⟩
  · by_cases hb : b = p
    · subst hb
      rw [upd_same] at e ⊢
      exact e
    · rw [upd_ne hb] at e ⊢
      exact S.imm _ _ e
  · obtain ⟨h1, h2⟩ := S.cel q hq
    rw [upd_ne (hne q hq), upd_ne (hne q hq)]
    exact ⟨h1, h2⟩

theorem Own0.allocM {H I : Hp} {M : List (Addr × HO)} {p : Addr} {o : HO} (S : Own0 H I M) (hp : H p = none) : Own0 (upd H p o) I ((p, o) :: M) := by
  obtain ⟨hne, hI⟩ := S.ne hp
  refine ⟨fun b u e => ?_, fun q hq => ?_, ?_⟩
  · rw [upd_ne (ne_of_none e hI)]
    exact S.imm _ _ e
  · rcases List.mem_cons.mp hq with rfl | hq
    · exact ⟨upd_same, hI⟩
    · obtain ⟨h1, h2⟩ := S.cel q hq
      rw [upd_ne (hne q hq)]
      exact ⟨h1, h2⟩
  · rw [List.map_cons, List.nodup_cons]
    refine ⟨fun hm => ?_, S.nd⟩
    obtain ⟨q, hq, e⟩ := List.mem_map.mp hm
    exact hne q hq e

/-- garbage laid -/
theorem Own0.laid {H I : Hp} {M : List (Addr × HO)} {p : Addr} {o : HO} (S : Own0 H I M) (hp : H p = none) : Own0 (upd H p o) I M := by
  obtain ⟨hne, hI⟩ := S.ne hp
  refine ⟨fun b u e => ?_, fun q hq => ?_, S.nd⟩
  · rw [upd_ne (ne_of_none e hI)]
    exact S.imm _ _ e
  · obtain ⟨h1, h2⟩ := S.cel q hq
    rw [upd_ne (hne q hq)]
    exact ⟨h1, h2⟩

theorem Own0.write {H I : Hp} {A B : List (Addr × HO)} {p : Addr} {o o' : HO} (S : Own0 H I (A ++ (p, o) :: B)) : Own0 (upd H p o') I (A ++ (p, o') :: B) := by
  have hI : I p = none := (S.cel (p, o) (by simp)).2
  have nd := S.nd
  rw [List.map_append, List.map_cons] at nd
  have nd2 := List.nodup_append.mp nd
  refine ⟨fun b u e => ?_, fun q hq => ?_, ?_⟩
  · rw [upd_ne (ne_of_none e hI)]
    exact S.imm _ _ e
  · rcases List.mem_append.mp hq with h | h
    · obtain ⟨h1, h2⟩ := S.cel q (List.mem_append_left _ h)
      rw [upd_ne (fun e => nd2.2.2 q.1 (List.mem_map.mpr ⟨q, h, rfl⟩) p (by simp) e)]
      exact ⟨h1, h2⟩
    · rcases List.mem_cons.mp h with rfl | h
      · exact ⟨upd_same, hI⟩
      · obtain ⟨h1, h2⟩ := S.cel q (List.mem_append_right _ (List.mem_cons_of_mem _ h))
        have n1 := (List.nodup_cons.mp nd2.2.1).1
        rw [upd_ne (fun e => n1 (List.mem_map.mpr ⟨q, h, e⟩))]
        exact ⟨h1, h2⟩
  · rw [List.map_append, List.map_cons]
    exact nd

theorem Own0.perm {H I : Hp} {M M' : List (Addr × HO)} (S : Own0 H I M) (h : M.Perm M') : Own0 H I M' :=
  ⟨S.imm, fun p hp => S.cel p (h.mem_iff.mpr hp), (h.map _).nodup_iff.mp S.nd⟩

theorem Own0.freeze {H I : Hp} {A B : List (Addr × HO)} {p : Addr} {o : HO} (S : Own0 H I (A ++ (p, o) :: B)) : Own0 H (upd I p o) (A ++ B) ∧ Same I (upd I p o) := by
  obtain ⟨h1, hI⟩ := S.cel (p, o) (by simp)
  have nd := S.nd
  rw [List.map_append, List.map_cons] at nd
  have nd2 := List.nodup_append.mp nd
  refine ⟨⟨fun b u e => ?_, fun q hq => ?_, ?_⟩, same_upd hI⟩
  · by_cases hb : b = p
    · subst hb
      rw [upd_same] at e
      rw [← e]
      exact h1
    · rw [upd_ne hb] at e
      exact S.imm _ _ e
  · have hq2 : q ∈ A ++ (p, o) :: B := by
      rcases List.mem_append.mp hq with h | h
      · exact List.mem_append_left _ h
      · exact List.mem_append_right _ (List.mem_cons_of_mem _ h)
    obtain ⟨z1, z2⟩ := S.cel q hq2
    refine ⟨z1, ?_⟩
    have hqp : q.1 ≠ p := fun e => by
      rcases List.mem_append.mp hq with h | h
      · exact nd2.2.2 q.1 (List.mem_map.mpr ⟨q, h, rfl⟩) p (by simp) e
      · exact (List.nodup_cons.mp nd2.2.1).1 (List.mem_map.mpr ⟨q, h, e⟩)
    rw [upd_ne hqp]
    exact z2
  · rw [List.map_append]
    refine List.nodup_append.mpr ⟨nd2.1, (List.nodup_cons.mp nd2.2.1).2, fun a ha b hb => nd2.2.2 a ha b (List.mem_cons_of_mem _ hb)⟩

section
variable {H I : Hp} {M : List (Addr × HO)} {Z : List (Addr × HO) → Prop} {p : Addr} {o o' : HO} {G : Prop}
theorem Own.imm (S : Own H I M Z) : Same I H := let ⟨_, _, S⟩ := S; S.imm
/-- a new object that will not change -/
theorem Own.alloc (S : Own H I M Z) (hp : H p = none) : ∃ I', Same I I' ∧ I' p = some o ∧ Own (upd H p o) I' M Z := by
  obtain ⟨N, z, S⟩ := S
  exact ⟨_, same_upd (S.ne hp).2, upd_same, N, z, S.alloc hp⟩
theorem Own.new (S : Own H I M Z) (hp : H p = none) (k : ∀ I', Same I I' → I' p = some o → Own (upd H p o) I' M Z → G) : G := by
  obtain ⟨I', a, b, c⟩ := S.alloc (o := o) hp
  exact k I' a b c
theorem Own.newM (S : Own H I M Z) (hp : H p = none) : Own (upd H p o) I ((p, o) :: M) Z := by
  obtain ⟨N, z, S⟩ := S
  exact ⟨N, z, S.allocM hp⟩
theorem Own.laid (S : Own H I M Z) (hp : H p = none) : Own (upd H p o) I M Z := by
  obtain ⟨N, z, S⟩ := S
  exact ⟨N, z, S.laid hp⟩
theorem Own.get {i : Nat} (S : Own H I M Z) (h : M[i]? = some (p, o)) : H p = some o := by
  obtain ⟨N, z, S⟩ := S
  exact (S.cel (p, o) (List.mem_append_left _ (List.mem_of_getElem? h))).1
theorem split_at {α : Type} {l : List α} {i : Nat} {x : α} (h : l[i]? = some x) : l = l.take i ++ x :: l.drop (i + 1) := by
  have hi : i < l.length := (List.getElem?_eq_some_iff.mp h).1
  have hx : l[i] = x := (List.getElem?_eq_some_iff.mp h).2
  rw [← hx, List.getElem_cons_drop hi, List.take_append_drop]
theorem set_at {α : Type} {l : List α} {i : Nat} {x y : α} (h : l[i]? = some x) : l.set i y = l.take i ++ y :: l.drop (i + 1) := by
  have hi : i < l.length := (List.getElem?_eq_some_iff.mp h).1
  rw [List.set_eq_take_append_cons_drop, if_pos hi]
theorem Own.set (S : Own H I M Z) (i : Nat) (h : M[i]? = some (p, o)) : Own (upd H p o') I (M.set i (p, o')) Z := by
  obtain ⟨N, z, S⟩ := S
  refine ⟨N, z, ?_⟩
  rw [set_at h]
  rw [split_at h] at S
  simp only [List.append_assoc, List.cons_append] at S ⊢
  exact S.write
theorem Own.still (S : Own H I M Z) (i : Nat) (h : M[i]? = some (p, o)) : ∃ I', Same I I' ∧ I' p = some o ∧ Own H I' (M.eraseIdx i) Z := by
  obtain ⟨N, z, S⟩ := S
  rw [split_at h] at S
  simp only [List.append_assoc, List.cons_append] at S
  obtain ⟨a, b⟩ := S.freeze
  refine ⟨_, b, upd_same, N, z, ?_⟩
  rw [List.eraseIdx_eq_take_drop_succ, List.append_assoc]
  exact a
theorem Own0.sub {H I : Hp} {M M' : List (Addr × HO)} (S : Own0 H I M) (h : List.Sublist M' M) : Own0 H I M' :=
  ⟨S.imm, fun p hp => S.cel p (h.subset hp), S.nd.sublist (h.map _)⟩
/-- forget one -/
theorem Own.drop (S : Own H I M Z) (i : Nat) : Own H I (M.eraseIdx i) Z := by
  obtain ⟨N, z, S⟩ := S
  exact ⟨N, z, S.sub (List.Sublist.append (List.eraseIdx_sublist ..) (List.Sublist.refl _))⟩
theorem Own.perm {M' : List (Addr × HO)} (S : Own H I M Z) (h : M.Perm M') : Own H I M' Z := by
  obtain ⟨N, z, S⟩ := S
  exact ⟨N, z, S.perm (h.append_right N)⟩
/-- the object at p is nowhere in I -/
theorem Own.un (S : Own H I M Z) {i : Nat} (h : M[i]? = some (p, o)) : I p = none := by
  obtain ⟨N, z, S⟩ := S
  exact (S.cel (p, o) (List.mem_append_left _ (List.mem_of_getElem? h))).2
theorem Own.down {I' : Hp} (S : Own H I' M Z) (e : Same I I') : Own H I M Z := by
  obtain ⟨N, z, S⟩ := S
  exact ⟨N, z, e.trans S.imm, fun p hp => ⟨(S.cel p hp).1, e.free (S.cel p hp).2⟩, S.nd⟩
theorem Own.of_same (h : Same I H) : Own H I [] Z0 := ⟨[], rfl, h, fun _ q => by simp at q, by simp⟩
/-- all that is owned, hidden -/
theorem Own.hide (S : Own H I M Z) : Own H I [] (fun N => ∃ N', Z N' ∧ N = M ++ N') := by
  obtain ⟨N, z, S⟩ := S
  exact ⟨M ++ N, ⟨N, z, rfl⟩, S⟩
theorem Own.zimp {Z' : List (Addr × HO) → Prop} (S : Own H I M Z) (h : ∀ N, Z N → Z' N) : Own H I M Z' := by
  obtain ⟨N, z, S⟩ := S
  exact ⟨N, h N z, S⟩
end

/-! ### data -/
section
variable {K : PySem.W.Frag} {I I' : Hp}
theorem Same.seqT {a : Addr} {xs : List V} (e : Same I I') (h : SqT K I a xs) : SqT K I' a xs := by
  rcases h with (h | ⟨o, h⟩) | h
  · exact .inl (.inl (e _ _ h))
  · exact .inl (.inr ⟨o, e _ _ h⟩)
  · exact .inr h
mutual
theorem Dp.same (e : Same I I') : ∀ (d : PyData) (v : V), Dp K I v d → Dp K I' v d
  | .none, _, h => by cases h; exact .non
  | .bool _, _, h => by cases h; exact .bl _
  | .int _, _, h => by cases h; exact .int _
  | .str _, _, h => by cases h; exact .str _
  | .list ds, _, h => by
    cases h with
    | lst hs ha => exact .lst (Same.seq e hs) (Dp.sameAll e ds _ ha)
  | .tuple ds, _, h => by
    cases h with
    | tup hs ha => exact .tup (Same.seqT e hs) (Dp.sameAll e ds _ ha)
  | .dict _, _, h => by cases h
theorem Dp.sameAll (e : Same I I') : ∀ (ds : List PyData) (vs : List V), DpAll K I vs ds → DpAll K I' vs ds
  | [], _, h => by cases h; exact .nil
  | d :: ds, _, h => by
    cases h with
    | cons h1 h2 => exact .cons (Dp.same e d _ h1) (Dp.sameAll e ds _ h2)
end
end
end Dz

/-! Steps of a reading, one lemma a construct. -/
namespace Dz
open PySem L2

/-! ### operators under names of their own -/
def rMod : R2 := rI (fun _ j => 0 < j) fun i j => .int (i % j)
def rAddS : R2 := fun x y H Q => ∃ i j, x = .str i ∧ y = .str j ∧ i.length + j.length ≤ sizeLine ∧ Q (.str (i ++ j)) H
def rInSg : R2 := fun x y H Q => ∃ (c : Nat) (z : Str), x = .str ⟨#[c]⟩ ∧ y = .str z ∧ Q (.bl (decide (c ∈ z.cps.toList))) H
def rNotInSg : R2 := fun x y H Q => ∃ (c : Nat) (z : Str), x = .str ⟨#[c]⟩ ∧ y = .str z ∧ Q (.bl (!decide (c ∈ z.cps.toList))) H
def rIsN : R2 := fun x y H Q => y = .non ∧ Q (.bl (decide (x = .non))) H
def rNotN : R2 := fun x y H Q => y = .non ∧ Q (.bl (!decide (x = .non))) H
def cInt : List V → Hp → VK → Prop := fun xs H Q => (∃ i, xs = [.int i] ∧ Q (.int i) H) ∨ ∃ k, xs = [.bl k] ∧ Q (.int (if k then 1 else 0)) H
def cLen (K : PySem.W.Frag) : List V → Hp → VK → Prop := fun xs H Q => ∃ p ys, xs = [.ref p] ∧ (SqL K H p ys ∨ SqT K H p ys) ∧ Q (.int ys.length) H
def cLenS : List V → Hp → VK → Prop := fun xs H Q => ∃ z, xs = [.str z] ∧ z.length ≤ sizeLine ∧ Q (.int z.length) H
def cListOf (K : PySem.W.Frag) : List V → Hp → VK → Prop := fun xs H Q => ∃ p ys, xs = [.ref p] ∧ (SqL K H p ys ∨ SqT K H p ys) ∧ ∀ l, H l = none → Q (.ref l) (upd H l (.lst ys))
def cTupOf (K : PySem.W.Frag) : List V → Hp → VK → Prop := fun xs H Q => ∃ p ys, xs = [.ref p] ∧ ((SqL K H p ys ∧ ∀ l, H l = none → Q (.ref l) (upd H l (.tup ys))) ∨ (SqT K H p ys ∧ Q (.ref p) H))
def cMin2 : List V → Hp → VK → Prop := fun xs H Q => ∃ i j, xs = [.int i, .int j] ∧ Q (.int (if j < i then j else i)) H
def mJoin (K : PySem.W.Frag) : V → List V → Hp → VK → Prop := fun x xs H Q => ∃ a p, ∃ ys : List Str, x = .str a ∧ xs = [.ref p] ∧ (SqL K H p (ys.map V.str) ∨ SqT K H p (ys.map V.str)) ∧
    (ys.map (·.length)).sum + ys.length * a.length ≤ 16777216 ∧ Q (.str (Txt.join a ys)) H
def mUpper : V → List V → Hp → VK → Prop := fun x xs H Q => ∃ a, x = .str a ∧ xs = [] ∧ a.length ≤ 5592405 ∧ Q (.str (Txt.upper a)) H
section
variable {X : Cx}
theorem o_mod : OpR X (binaryOp .Mod) rMod := op_mod
theorem o_addS : OpR X (binaryOp .Add) rAddS := op_add_str
theorem o_inSg : OpR X (compareOp .In) rInSg := op_in_sign
theorem o_notInSg : OpR X (compareOp .NotIn) rNotInSg := op_notIn_sign
theorem o_isN : OpR X (compareOp .Is) rIsN := op_isN
theorem o_notN : OpR X (compareOp .IsNot) rNotN := op_notN
theorem c_int : CallR X (.type "int") cInt := call_int1
theorem c_len : CallR X (.builtin "len") (cLen X.K) := call_len_seq
theorem c_lenS : CallR X (.builtin "len") cLenS := call_len_str
theorem c_listOf : CallR X (.type "list") (cListOf X.K) := call_list_of
theorem c_tupOf : CallR X (.type "tuple") (cTupOf X.K) := call_tuple_of
theorem c_min2 (hc : X.calm = true) : CallR X (.builtin "min") cMin2 := call_min2 hc
theorem m_join : MtR X "str.join" (mJoin X.K) := mt_join
theorem m_upper : MtR X "str.upper" mUpper := mt_upper
end

section
variable {X : Cx} {K : PySem.W.Frag} (hK : X.K = K := by rfl)
include hK
theorem ix_listK : IxR X (rIxL K) := hK ▸ ix_list
theorem ix_tupK : IxR X (rIxT K) := hK ▸ ix_tup
theorem sl_listK : SlR X (rSlL K) := hK ▸ sl_list
theorem in_seqK : OpR X (compareOp .In) (rIn K false) := hK ▸ op_in_seq
theorem notIn_seqK : OpR X (compareOp .NotIn) (rIn K true) := hK ▸ op_notIn_seq
theorem c_lenK : CallR X (.builtin "len") (cLen K) := hK ▸ c_len
theorem c_listOfK : CallR X (.type "list") (cListOf K) := hK ▸ c_listOf
theorem c_tupOfK : CallR X (.type "tuple") (cTupOf K) := hK ▸ c_tupOf
theorem m_joinK : MtR X "str.join" (mJoin K) := hK ▸ m_join
end
theorem eqDK {X : Cx} {K : PySem.W.Frag} (hu : X.A.units + 64 < cLine) (hK : X.K = K := by rfl) : OpR X (compareOp .Eq) (rEqD K) := hK ▸ op_eqD hu
theorem neDK {X : Cx} {K : PySem.W.Frag} (hu : X.A.units + 64 < cLine) (hK : X.K = K := by rfl) : OpR X (compareOp .NotEq) (rNeD K) := hK ▸ op_neD hu
theorem pi_listK {X : Cx} {K : PySem.W.Frag} {tg e : Expr} {te : TE} (he : PE X e te) (hK : X.K = K := by rfl) : PI X tg e (iList K te) := hK ▸ pi_list he
theorem pi_tupK {X : Cx} {K : PySem.W.Frag} {tg e : Expr} {te : TE} (he : PE X e te) (hK : X.K = K := by rfl) : PI X tg e (iTup K te) := hK ▸ pi_tup he
theorem pe_fldK {X : Cx} {K : PySem.W.Frag} {e : Expr} {f : Str} {pos : Pos} {ta : TE} (he : PE X e ta) (hb : attributeBase e f X.env (eval e X.env) = eval e X.env := by rfl) (hK : X.K = K := by rfl) : PE X (.Attribute e f pos) (tFld K ta f) := hK ▸ pe_fld he hb
theorem pe_bmK {X : Cx} {K : PySem.W.Frag} {T id : String} {name : Str} {o e : Expr} {es : List Expr} {to : TE} {t : TA} {r : V → List V → Hp → VK → Prop} {apos cpos : Pos} (pa : PlainAttrs T) (slot : Slot T name id) (hty : typeOf (.builtin id) = pure (.type "method_descriptor")) (hm : MtR X id r) (ho : PE X o to) (ha : PA X (e :: es) t)
    (hbase : attributeBase o name X.env (eval o X.env) = eval o X.env := by rfl)
    (hfew : ((backTo cpos (starEach (e :: es) X.env)).all (fun x => !x.1) && (backToKw cpos (keywordEach [] X.env)).all (fun x => x.1.isSome)
      && decide ((e :: es).length + ([] : List Keyword).length + (if ([] : List Keyword).isEmpty then 0 else 1) < 30)) = true := by rfl)
    (hline : (apos.endLine == cpos.line) = true := by rfl) (hs : starEach (e :: es) X.env = (false, eval e X.env) :: starEach es X.env := by rfl) (hplain : (backTo cpos (starEach es X.env)).any (·.1) = false := by rfl) (hK : X.K = K := by rfl) :
    PE X (.Call (.Attribute o name apos) (e :: es) [] cpos) (tBM K T r to t) := by
  subst hK
  exact pe_bm pa slot hty hm ho ha hbase hfew hline hs hplain
theorem pe_revLK {X : Cx} {K : PySem.W.Frag} {e : Expr} {te : TE} {k : Nat} {p1 p2 p3 pos : Pos} (he : PE X e te) (hK : X.K = K := by rfl) : PE X (.Subscript e (.Slice none none (some (.UnaryOp .USub (.Constant (.int 1) k p1) p2)) p3) pos) (tRevL K te) := hK ▸ pe_revL he
theorem pg_tupK {X : Cx} {K : PySem.W.Frag} {es : List Expr} {k : Nat} {t : TGs} {n : Nat} {pos : Pos} (hc : X.calm = true) (h : PGs X es t) (hn : (assignEach es X.env).length = n := by rfl) (hst : (assignEach es X.env).findIdx? (·.1) = none := by rfl) (hK : X.K = K := by rfl) : PG X (.Tuple es k pos) (gTup K n t) := hK ▸ pg_tup hc h hn hst
theorem pe_bm0K {X : Cx} {K : PySem.W.Frag} {T id : String} {name : Str} {o : Expr} {to : TE} {r : V → List V → Hp → VK → Prop} {apos cpos : Pos} (pa : PlainAttrs T) (slot : Slot T name id) (hty : typeOf (.builtin id) = pure (.type "method_descriptor")) (hm : MtR X id r) (ho : PE X o to)
    (hbase : attributeBase o name X.env (eval o X.env) = eval o X.env := by rfl) (hline : (apos.endLine == cpos.line) = true := by rfl) (hK : X.K = K := by rfl) : PE X (.Call (.Attribute o name apos) [] [] cpos) (tBM0 K T r to) := by
  subst hK
  exact pe_bm0 pa slot hty hm ho hbase hline
/-! ### the combinators -/
section
variable {σ : L2.St} {H : Hp} {Q : VK} {QA : List V → Hp → Prop} {QB : Bool → Hp → Prop} {R : L2.St → Hp → Prop}
variable {ta tb te tc : TE} {tr : TA} {t u : TS} {tt tu : TT} {g : TG} {gs : TGs}
variable {nx bk ct : L2.St → Hp → Prop} {rt : VK} {i : Nat} {v : V} {K : PySem.W.Frag}
theorem x_var (h : σ[i]? = some (some v)) (k : Q v H) : tVar i σ H Q := ⟨v, h, k⟩
theorem x_c (k : Q v H) : tC v σ H Q := k
theorem x_nil (k : QA [] H) : tNil σ H QA := k
theorem x_cons (k : ta σ H fun x H1 => tr σ H1 fun xs H2 => QA (x :: xs) H2) : tCons ta tr σ H QA := k
theorem x_op {r : R2} (k : ta σ H fun x H1 => tb σ H1 fun y H2 => r x y H2 Q) : tOp r ta tb σ H Q := k
theorem x_un {r : V → Hp → VK → Prop} (k : ta σ H fun x H1 => r x H1 Q) : tUn r ta σ H Q := k
theorem x_cb {r : List V → Hp → VK → Prop} (k : tr σ H fun vs H1 => r vs H1 Q) : tCB r tr σ H Q := k
theorem x_bm {T : String} {r : V → List V → Hp → VK → Prop} (k : ta σ H fun x H1 => tyV K T x H1 ∧ tr σ H1 fun xs H2 => r x xs H2 Q) : tBM K T r ta tr σ H Q := k
theorem x_bm0 {T : String} {r : V → List V → Hp → VK → Prop} (k : ta σ H fun x H1 => tyV K T x H1 ∧ r x [] H1 Q) : tBM0 K T r ta σ H Q := k
theorem x_test (k : te σ H fun x H1 => ∃ b, x = .bl b ∧ QB b H1) : tTest te σ H QB := k
theorem x_tB (k : te σ H fun x H1 => ∃ b, x = .bl b ∧ QB b H1) : tB te σ H QB := k
theorem x_and (k : tt σ H fun c H1 => if c = true then tu σ H1 QB else QB false H1) : tAnd tt tu σ H QB := k
theorem x_or (k : tt σ H fun c H1 => if c = true then QB true H1 else tu σ H1 QB) : tOr tt tu σ H QB := k
theorem x_not (k : tt σ H fun c H1 => QB (!c) H1) : tNot tt σ H QB := k
theorem x_notV (k : ta σ H fun x H1 => ∃ c, x = .bl c ∧ Q (.bl (!c)) H1) : tNotV ta σ H Q := k
theorem x_andV (k : ta σ H fun x H1 => ∃ c, x = .bl c ∧ if c = true then tb σ H1 Q else Q (.bl false) H1) : tAndV ta tb σ H Q := k
theorem x_orV (k : ta σ H fun x H1 => ∃ c, x = .bl c ∧ if c = true then Q (.bl true) H1 else tb σ H1 Q) : tOrV ta tb σ H Q := k
theorem x_ifE (k : tt σ H fun c H1 => if c = true then ta σ H1 Q else tb σ H1 Q) : tIf tt ta tb σ H Q := k
theorem x_bl {b : Bool} {P : Bool → Prop} (k : P b) : ∃ c, V.bl b = .bl c ∧ P c := ⟨b, rfl, k⟩
theorem x_seq (k : t ⟨u ⟨nx, rt, bk, ct⟩, rt, bk, ct⟩ σ H) : tSeq t u ⟨nx, rt, bk, ct⟩ σ H := k
/-- a statement by what holds behind it -/
theorem x_cut (J : L2.St → Hp → Prop) (h : t ⟨J, rt, bk, ct⟩ σ H) (k : ∀ σ H, J σ H → u ⟨nx, rt, bk, ct⟩ σ H) : C8.tCut t u ⟨nx, rt, bk, ct⟩ σ H := ⟨J, h, k⟩
theorem x_next (k : nx σ H) : tNext ⟨nx, rt, bk, ct⟩ σ H := k
theorem x_asg (k : te σ H fun x H1 => g x σ H1 nx) : tAsg te g ⟨nx, rt, bk, ct⟩ σ H := k
theorem x_name (k : R (σ.set i (some v)) H) : gName i v σ H R := k
theorem x_ret (k : te σ H rt) : tRet te ⟨nx, rt, bk, ct⟩ σ H := k
theorem x_retN (k : rt .non H) : tRetN ⟨nx, rt, bk, ct⟩ σ H := k
theorem x_drop (k : te σ H fun _ H1 => nx σ H1) : tDrop te ⟨nx, rt, bk, ct⟩ σ H := k
theorem x_ifS (k : tt σ H fun b H1 => if b = true then t ⟨nx, rt, bk, ct⟩ σ H1 else u ⟨nx, rt, bk, ct⟩ σ H1) : tIfS tt t u ⟨nx, rt, bk, ct⟩ σ H := k
theorem x_break (k : bk σ H) : tBreak ⟨nx, rt, bk, ct⟩ σ H := k
theorem x_cont (k : ct σ H) : tCont ⟨nx, rt, bk, ct⟩ σ H := k
theorem x_call {sp : L2.Sp} {dvs : List V} {E : XK} (k : tr σ H fun vs H1 => sp (vs ++ dvs) H1 Q E) : tCall sp dvs E tr σ H Q := k
theorem x_gTup {n : Nat} {a : Addr} {xs : List V} (h : SqT K H a xs) (hl : xs.length = n) (k : gs xs σ H R) : gTup K n gs (.ref a) σ H R := ⟨a, xs, rfl, h, hl, k⟩
theorem x_gCons {r : List V} (k : g v σ H fun σ' H' => gs r σ' H' R) : gCons g gs (v :: r) σ H R := ⟨v, r, rfl, k⟩
theorem x_gNil (k : R σ H) : gNil [] σ H R := ⟨rfl, k⟩
theorem x_gSub {to ti : TE} {ts : TSet} (k : to σ H fun o H1 => ti σ H1 fun i H2 => ts o i v H2 fun H3 => R σ H3) : gSub to ti ts v σ H R := k
theorem x_sl {r : V → Option Int → Option Int → Hp → VK → Prop} {tl th : TO} (k : te σ H fun x H1 => tl σ H1 fun l H2 => th σ H2 fun u H3 => r x l u H3 Q) : tSl r te tl th σ H Q := k
theorem x_noPart {Qo : Option Int → Hp → Prop} (k : Qo none H) : tNoPart σ H Qo := k
theorem x_part {Qo : Option Int → Hp → Prop} (k : te σ H fun x H1 => ∃ i, x = .int i ∧ Qo (some i) H1) : tPart te σ H Qo := k
theorem x_intE {P : Int → Prop} {j : Int} (k : P j) : ∃ i, V.int j = .int i ∧ P i := ⟨j, rfl, k⟩
def TupK (xs : List V) (H : Hp) (Q : VK) : Prop := xs.length ≤ sizeLine ∧ ∀ p, H p = none → Q (.ref p) (upd H p (.tup xs))
def LstK (xs : List V) (H : Hp) (Q : VK) : Prop := xs.length ≤ sizeLine ∧ ∀ p, H p = none → Q (.ref p) (upd H p (.lst xs))
theorem x_tup (k : tr σ H fun xs H1 => TupK xs H1 Q) : tTup tr σ H Q := k
theorem x_lst (k : tr σ H fun xs H1 => LstK xs H1 Q) : tLst tr σ H Q := k
theorem x_iList {tl : TE} {Ri : It → Hp → Prop} (k : tl σ H fun x H1 => ∃ a, x = .ref a ∧ (∃ xs, SqL K H1 a xs) ∧ Ri (Itl K a) H1) : iList K tl σ H Ri := k
theorem x_iTup {tl : TE} {Ri : It → Hp → Prop} (k : tl σ H fun x H1 => ∃ a, x = .ref a ∧ (∃ xs, SqT K H1 a xs) ∧ Ri (Itt K a) H1) : iTup K tl σ H Ri := k

/-! ### operators at values -/
theorem x_rI0 {f : Int → Int → V} {a b : Int} (k : Q (f a b) H) : rI0 f (.int a) (.int b) H Q := ⟨a, b, rfl, rfl, k⟩
theorem x_rI {C : Int → Int → Prop} {f : Int → Int → V} {a b : Int} (c : C a b) (k : Q (f a b) H) : rI C f (.int a) (.int b) H Q := ⟨a, b, rfl, rfl, c, k⟩
theorem x_mod {a b : Int} (c : 0 < b) (k : Q (.int (a % b)) H) : rMod (.int a) (.int b) H Q := ⟨a, b, rfl, rfl, c, k⟩
theorem x_addS {a b : Str} (c : a.length + b.length ≤ sizeLine) (k : Q (.str (a ++ b)) H) : rAddS (.str a) (.str b) H Q := ⟨a, b, rfl, rfl, c, k⟩
theorem x_eqI {a b : Int} (k : Q (.bl (decide (a = b))) H) : rEq (.int a) (.int b) H Q := by
  refine ⟨rfl, ?_⟩
  have e : decide (V.int a = V.int b) = decide (a = b) := decide_eq_decide.mpr ⟨fun h => V.int.inj h, fun h => by rw [h]⟩
  rw [e]
  exact k
theorem x_eqS {a b : Str} (k : Q (.bl (decide (a = b))) H) : rEq (.str a) (.str b) H Q := by
  refine ⟨rfl, ?_⟩
  have e : decide (V.str a = V.str b) = decide (a = b) := decide_eq_decide.mpr ⟨fun h => V.str.inj h, fun h => by rw [h]⟩
  rw [e]
  exact k
theorem x_eqB {a b : Bool} (k : Q (.bl (decide (a = b))) H) : rEq (.bl a) (.bl b) H Q := by
  refine ⟨rfl, ?_⟩
  have e : decide (V.bl a = V.bl b) = decide (a = b) := decide_eq_decide.mpr ⟨fun h => V.bl.inj h, fun h => by rw [h]⟩
  rw [e]
  exact k
theorem x_neI {a b : Int} (k : Q (.bl (!decide (a = b))) H) : rNe (.int a) (.int b) H Q := by
  refine ⟨rfl, ?_⟩
  have e : decide (V.int a = V.int b) = decide (a = b) := decide_eq_decide.mpr ⟨fun h => V.int.inj h, fun h => by rw [h]⟩
  rw [e]
  exact k
theorem x_neS {a b : Str} (k : Q (.bl (!decide (a = b))) H) : rNe (.str a) (.str b) H Q := by
  refine ⟨rfl, ?_⟩
  have e : decide (V.str a = V.str b) = decide (a = b) := decide_eq_decide.mpr ⟨fun h => V.str.inj h, fun h => by rw [h]⟩
  rw [e]
  exact k
theorem x_neB {a b : Bool} (k : Q (.bl (!decide (a = b))) H) : rNe (.bl a) (.bl b) H Q := by
  refine ⟨rfl, ?_⟩
  have e : decide (V.bl a = V.bl b) = decide (a = b) := decide_eq_decide.mpr ⟨fun h => V.bl.inj h, fun h => by rw [h]⟩
  rw [e]
  exact k
theorem x_isN {x : V} (k : Q (.bl (decide (x = .non))) H) : rIsN x .non H Q := ⟨rfl, k⟩
theorem x_notN {x : V} (k : Q (.bl (!decide (x = .non))) H) : rNotN x .non H Q := ⟨rfl, k⟩
theorem x_intI {a : Int} (k : Q (.int a) H) : cInt [.int a] H Q := .inl ⟨a, rfl, k⟩
theorem x_intB {b : Bool} (k : Q (.int (if b then 1 else 0)) H) : cInt [.bl b] H Q := .inr ⟨b, rfl, k⟩
theorem x_lenL {p : Addr} {ys : List V} (h : SqL K H p ys) (k : Q (.int ys.length) H) : cLen K [.ref p] H Q := ⟨p, ys, rfl, .inl h, k⟩
theorem x_lenT {p : Addr} {ys : List V} (h : SqT K H p ys) (k : Q (.int ys.length) H) : cLen K [.ref p] H Q := ⟨p, ys, rfl, .inr h, k⟩
theorem x_lenS {z : Str} (h : z.length ≤ sizeLine) (k : Q (.int z.length) H) : cLenS [.str z] H Q := ⟨z, rfl, h, k⟩
theorem x_ixL {p : Addr} {xs : List V} {j : Int} (h : SqL K H p xs) (a : atI xs j = some v) (k : Q v H) : rIxL K (.ref p) (.int j) H Q := ⟨p, xs, j, v, rfl, rfl, h, a, k⟩
theorem x_ixT {p : Addr} {xs : List V} {j : Int} (h : SqT K H p xs) (a : atI xs j = some v) (k : Q v H) : rIxT K (.ref p) (.int j) H Q := ⟨p, xs, j, v, rfl, rfl, h, a, k⟩
theorem x_ixS {z : Str} {j : Int} {c : Nat} (h : z.length ≤ sizeLine) (a : atI z.cps.toList j = some c) (k : Q (.str ⟨#[c]⟩) H) : rIxS (.str z) (.int j) H Q := ⟨z, j, c, rfl, rfl, h, a, k⟩
theorem x_setL {p : Addr} {xs : List V} {j : Int} {n : Nat} {Qh : Hp → Prop} (h : H p = some (.lst xs)) (a : ixN xs.length j = some n) (k : Qh (upd H p (.lst (xs.set n v)))) : rSetL (.ref p) (.int j) v H Qh := ⟨p, xs, j, n, rfl, rfl, h, a, k⟩
theorem x_popAt {p : Addr} {xs : List V} {j : Int} {n : Nat} {y : V} (h : H p = some (.lst xs)) (h1 : -(2 ^ 63) ≤ j) (h2 : j < 2 ^ 63) (a : seqIndex? j xs.length = some n) (b : xs[n]? = some y) (k : Q y (upd H p (.lst (xs.eraseIdx n)))) :
    rPopAt (.ref p) [.int j] H Q := ⟨p, xs, j, n, y, rfl, rfl, h, h1, h2, a, b, k⟩
theorem x_append {p : Addr} {xs : List V} {y : V} (h : H p = some (.lst xs)) (z : xs.length < sizeLine) (k : Q .non (upd H p (.lst (xs ++ [y])))) : rAppend (.ref p) [y] H Q := ⟨p, xs, y, rfl, rfl, h, z, k⟩
theorem x_slL {p : Addr} {xs : List V} {lo hi : Option Int} (h : SqL K H p xs) (k : ∀ l, H l = none → Q (.ref l) (upd H l (.lst (cutV xs lo hi)))) : rSlL K (.ref p) lo hi H Q := ⟨p, xs, rfl, h, k⟩
theorem x_cat {p q : Addr} {xs ys : List V} (h1 : H p = some (.lst xs)) (h2 : H q = some (.lst ys)) (z : xs.length + ys.length ≤ sizeLine) (k : ∀ l, H l = none → Q (.ref l) (upd H l (.lst (xs ++ ys)))) : rCat (.ref p) (.ref q) H Q :=
  ⟨p, q, xs, ys, rfl, rfl, h1, h2, z, k⟩
theorem x_in {p : Addr} {xs : List V} {x : V} (h : SqL K H p xs) (h1 : flatV x = true) (h2 : xs.all flatV = true) (k : Q (.bl (inV x xs)) H) : rIn K false x (.ref p) H Q := ⟨p, xs, rfl, .inl h, h1, h2, by simpa using k⟩
theorem x_notIn {p : Addr} {xs : List V} {x : V} (h : SqL K H p xs) (h1 : flatV x = true) (h2 : xs.all flatV = true) (k : Q (.bl (!inV x xs)) H) : rIn K true x (.ref p) H Q := ⟨p, xs, rfl, .inl h, h1, h2, by simpa using k⟩
theorem x_inT {p : Addr} {xs : List V} {x : V} (h : SqT K H p xs) (h1 : flatV x = true) (h2 : xs.all flatV = true) (k : Q (.bl (inV x xs)) H) : rIn K false x (.ref p) H Q := ⟨p, xs, rfl, .inr h, h1, h2, by simpa using k⟩
theorem x_notInT {p : Addr} {xs : List V} {x : V} (h : SqT K H p xs) (h1 : flatV x = true) (h2 : xs.all flatV = true) (k : Q (.bl (!inV x xs)) H) : rIn K true x (.ref p) H Q := ⟨p, xs, rfl, .inr h, h1, h2, by simpa using k⟩
theorem x_inSg {c : Nat} {z : Str} (k : Q (.bl (decide (c ∈ z.cps.toList))) H) : rInSg (.str ⟨#[c]⟩) (.str z) H Q := ⟨c, z, rfl, rfl, k⟩
theorem x_notInSg {c : Nat} {z : Str} (k : Q (.bl (!decide (c ∈ z.cps.toList))) H) : rNotInSg (.str ⟨#[c]⟩) (.str z) H Q := ⟨c, z, rfl, rfl, k⟩
theorem x_eqD {a b : V} {d e : PyData} (h1 : Dp K H a d) (h2 : Dp K H b e) (s1 : SeqAt.shaped d = true) (s2 : SeqAt.shaped e = true) (k : Q (.bl (PyData.eqv d e)) H) : rEqD K a b H Q := ⟨d, e, h1, h2, s1, s2, k⟩
theorem x_neD {a b : V} {d e : PyData} (h1 : Dp K H a d) (h2 : Dp K H b e) (s1 : SeqAt.shaped d = true) (s2 : SeqAt.shaped e = true) (k : Q (.bl (!PyData.eqv d e)) H) : rNeD K a b H Q := ⟨d, e, h1, h2, s1, s2, k⟩
theorem x_min2 {a b : Int} (k : Q (.int (if b < a then b else a)) H) : cMin2 [.int a, .int b] H Q := ⟨a, b, rfl, k⟩
theorem x_joinL {a : Str} {p : Addr} {ys : List Str} (h : SqL K H p (ys.map V.str)) (z : (ys.map (·.length)).sum + ys.length * a.length ≤ 16777216) (k : Q (.str (Txt.join a ys)) H) : mJoin K (.str a) [.ref p] H Q := ⟨a, p, ys, rfl, rfl, .inl h, z, k⟩

theorem x_upper {a : Str} (h : a.length ≤ 5592405) (k : Q (.str (Txt.upper a)) H) : mUpper (.str a) [] H Q := ⟨a, rfl, rfl, h, k⟩
theorem x_tyL {B : Prop} {p : Addr} {xs : List V} (h : SqL K H p xs) (k : B) : tyV K "list" (.ref p) H ∧ B := ⟨.inl ⟨rfl, _, h⟩, k⟩
def DgK (x y : V) (H : Hp) (Q : VK) : Prop := ∃ a v, x = .ref a ∧ DGet H a y (some v) ∧ Q v H
def DiK (x y : V) (H : Hp) (Q : Bool → Hp → Prop) : Prop := ∃ a o, x = .ref a ∧ DGet H a y o ∧ Q o.isSome H
def DpK (x y v : V) (H : Hp) (R : Hp → Prop) : Prop := ∃ a H4, x = .ref a ∧ DPut H a y v H4 ∧ R H4
theorem x_tdget {td ty : TE} (k : td σ H fun x H1 => ty σ H1 fun y H2 => DgK x y H2 Q) : tDGet td ty σ H Q := k
theorem x_tdin {td ty : TE} (k : ty σ H fun y H1 => td σ H1 fun x H2 => DiK x y H2 fun b H3 => Q (.bl b) H3) : tDIn ty td σ H Q := k
theorem x_tdnotin {td ty : TE} (k : ty σ H fun y H1 => td σ H1 fun x H2 => DiK x y H2 fun b H3 => Q (.bl (!b)) H3) : tDNotIn ty td σ H Q := k
theorem x_sdput {td ty tv : TE} (k : tv σ H fun v H1 => td σ H1 fun x H2 => ty σ H2 fun y H3 => DpK x y v H3 (nx σ)) : sDPut td ty tv ⟨nx, rt, bk, ct⟩ σ H := k
theorem x_dgS {p : Addr} {kvs : List (Key × V)} {z : Str} (h : H p = some (.dK kvs)) (e : valV kvs (.inr z) = some v) (k : Q v H) : DgK (.ref p) (.str z) H Q := ⟨p, v, rfl, by rw [← e]; exact DGet.k (k := .inr z) h, k⟩
theorem x_diS {p : Addr} {kvs : List (Key × V)} {z : Str} (h : H p = some (.dK kvs)) (k : QB (valV kvs (.inr z)).isSome H) : DiK (.ref p) (.str z) H QB := ⟨p, _, rfl, DGet.k (k := .inr z) h, k⟩
def RvK (K : PySem.W.Frag) (x : V) (H1 : Hp) (Q : VK) : Prop := ∃ a xs, x = .ref a ∧ SqL K H1 a xs ∧ ∀ p, H1 p = none → Q (.ref p) (upd H1 p (.lst xs.reverse))
theorem x_trev (k : te σ H fun x H1 => RvK K x H1 Q) : tRevL K te σ H Q := k
theorem x_tyS {B : Prop} {z : Str} (k : B) : tyV K "str" (.str z) H ∧ B := ⟨rfl, k⟩
/-! ### over the split heap -/
section
variable {I : Hp} {M : List (Addr × HO)} {Z : List (Addr × HO) → Prop} {Qh : Hp → Prop} {Qp : Addr → Hp → Prop} {o : HO}
theorem x_tupI {xs : List V} (S : Own H I M Z) (hl : xs.length ≤ sizeLine) (k : ∀ p I' H', Same I I' → I' p = some (.tup xs) → Own H' I' M Z → Q (.ref p) H') : TupK xs H Q := ⟨hl, fun p hp => S.new hp fun I' a b c => k p I' _ a b c⟩
theorem x_lstI {xs : List V} (S : Own H I M Z) (hl : xs.length ≤ sizeLine) (k : ∀ p I' H', Same I I' → I' p = some (.lst xs) → Own H' I' M Z → Q (.ref p) H') : LstK xs H Q := ⟨hl, fun p hp => S.new hp fun I' a b c => k p I' _ a b c⟩
theorem x_lstM {xs : List V} (S : Own H I M Z) (hl : xs.length ≤ sizeLine) (k : ∀ p H', Own H' I ((p, .lst xs) :: M) Z → Q (.ref p) H') : LstK xs H Q := ⟨hl, fun p hp => k p _ (S.newM hp)⟩
theorem x_slI {p : Addr} {xs : List V} {lo hi : Option Int} (S : Own H I M Z) (h : SqL K H p xs) (k : ∀ q I' H', Same I I' → I' q = some (.lst (cutV xs lo hi)) → Own H' I' M Z → Q (.ref q) H') : rSlL K (.ref p) lo hi H Q := ⟨p, xs, rfl, h, fun q hq => S.new hq fun I' a b c => k q I' _ a b c⟩
theorem x_slM {p : Addr} {xs : List V} {lo hi : Option Int} (S : Own H I M Z) (h : SqL K H p xs) (k : ∀ q H', Own H' I ((q, .lst (cutV xs lo hi)) :: M) Z → Q (.ref q) H') : rSlL K (.ref p) lo hi H Q := ⟨p, xs, rfl, h, fun q hq => k q _ (S.newM hq)⟩
theorem x_catI {p q : Addr} {xs ys : List V} (S : Own H I M Z) (h1 : H p = some (.lst xs)) (h2 : H q = some (.lst ys)) (z : xs.length + ys.length ≤ sizeLine) (k : ∀ r I' H', Same I I' → I' r = some (.lst (xs ++ ys)) → Own H' I' M Z → Q (.ref r) H') : rCat (.ref p) (.ref q) H Q :=
  ⟨p, q, xs, ys, rfl, rfl, h1, h2, z, fun r hr => S.new hr fun I' a b c => k r I' _ a b c⟩
theorem x_catM {p q : Addr} {xs ys : List V} (S : Own H I M Z) (h1 : H p = some (.lst xs)) (h2 : H q = some (.lst ys)) (z : xs.length + ys.length ≤ sizeLine) (k : ∀ r H', Own H' I ((r, .lst (xs ++ ys)) :: M) Z → Q (.ref r) H') : rCat (.ref p) (.ref q) H Q :=
  ⟨p, q, xs, ys, rfl, rfl, h1, h2, z, fun r hr => k r _ (S.newM hr)⟩
theorem x_dnewM (S : Own H I M Z) (k : ∀ p H', Own H' I ((p, .dK []) :: M) Z → Q (.ref p) H') : tDNewK σ H Q := fun p hp => k p _ (S.newM hp)
theorem x_listI {p : Addr} {xs : List V} (S : Own H I M Z) (h : SqL K H p xs ∨ SqT K H p xs) (k : ∀ q I' H', Same I I' → I' q = some (.lst xs) → Own H' I' M Z → Q (.ref q) H') : cListOf K [.ref p] H Q := ⟨p, xs, rfl, h, fun q hq => S.new hq fun I' a b c => k q I' _ a b c⟩
theorem x_listM {p : Addr} {xs : List V} (S : Own H I M Z) (h : SqL K H p xs ∨ SqT K H p xs) (k : ∀ q H', Own H' I ((q, .lst xs) :: M) Z → Q (.ref q) H') : cListOf K [.ref p] H Q := ⟨p, xs, rfl, h, fun q hq => k q _ (S.newM hq)⟩
theorem x_tupOfL {p : Addr} {xs : List V} (S : Own H I M Z) (h : SqL K H p xs) (k : ∀ q I' H', Same I I' → I' q = some (.tup xs) → Own H' I' M Z → Q (.ref q) H') : cTupOf K [.ref p] H Q := ⟨p, xs, rfl, .inl ⟨h, fun q hq => S.new hq fun I' a b c => k q I' _ a b c⟩⟩
theorem x_tupOfT {p : Addr} {xs : List V} (h : SqT K H p xs) (k : Q (.ref p) H) : cTupOf K [.ref p] H Q := ⟨p, xs, rfl, .inr ⟨h, k⟩⟩
theorem x_dpS {R : Hp → Prop} {p : Addr} {kvs : List (Key × V)} {z : Str} (i : Nat) (S : Own H I M Z) (h : M[i]? = some (p, .dK kvs)) (hl : kvs.length < sizeLine) (k : ∀ H', Own H' I (M.set i (p, .dK (putK kvs (.inr z) v))) Z → R H') : DpK (.ref p) (.str z) v H R :=
  ⟨p, _, rfl, DPut.k (k := .inr z) (S.get h) hl, k _ (S.set i h)⟩
theorem x_rvI {p : Addr} {xs : List V} (S : Own H I M Z) (h : SqL K H p xs) (k : ∀ q I' H', Same I I' → I' q = some (.lst xs.reverse) → Own H' I' M Z → Q (.ref q) H') : RvK K (.ref p) H Q := ⟨p, xs, rfl, h, fun q hq => S.new hq fun I' a b c => k q I' _ a b c⟩
theorem x_len {A B : Prop} (h : A) (k : B) : A ∧ B := ⟨h, k⟩
theorem x_setO {p : Addr} {xs : List V} {j : Int} {n : Nat} (i : Nat) (S : Own H I M Z) (h : M[i]? = some (p, .lst xs)) (a : ixN xs.length j = some n) (k : ∀ H', Own H' I (M.set i (p, .lst (xs.set n v))) Z → Qh H') : rSetL (.ref p) (.int j) v H Qh :=
  x_setL (S.get h) a (k _ (S.set i h))
theorem x_popO {p : Addr} {xs : List V} {j : Int} {n : Nat} {y : V} (i : Nat) (S : Own H I M Z) (h : M[i]? = some (p, .lst xs)) (h1 : -(2 ^ 63) ≤ j) (h2 : j < 2 ^ 63) (a : seqIndex? j xs.length = some n) (b : xs[n]? = some y) (k : ∀ H', Own H' I (M.set i (p, .lst (xs.eraseIdx n))) Z → Q y H') :
    rPopAt (.ref p) [.int j] H Q := x_popAt (S.get h) h1 h2 a b (k _ (S.set i h))
theorem x_appO {p : Addr} {xs : List V} {y : V} (i : Nat) (S : Own H I M Z) (h : M[i]? = some (p, .lst xs)) (z : xs.length < sizeLine) (k : ∀ H', Own H' I (M.set i (p, .lst (xs ++ [y]))) Z → Q .non H') : rAppend (.ref p) [y] H Q :=
  x_append (S.get h) z (k _ (S.set i h))
end
/-! ### branches -/
theorem x_if {c : Bool} {A B : Prop} (h1 : c = true → A) (h2 : c = false → B) : if c = true then A else B := by
  cases c with
  | true => rw [if_pos rfl]; exact h1 rfl
  | false => rw [if_neg Bool.false_ne_true]; exact h2 rfl
theorem x_ifD {c A B : Prop} [Decidable c] (h1 : c → A) (h2 : ¬ c → B) : if decide c = true then A else B := x_if (fun h => h1 (of_decide_eq_true h)) fun h => h2 (of_decide_eq_false h)
theorem x_ifN {c : Bool} {A B : Prop} (h : if c = true then B else A) : if (!c) = true then A else B := by
  cases c with
  | true => rw [if_pos rfl] at h; exact iteF h
  | false => rw [if_neg Bool.false_ne_true] at h; exact iteT h
theorem x_ifTrue {A B : Prop} (h : A) : if true = true then A else B := iteT h
theorem x_ifFalse {A B : Prop} (h : B) : if false = true then A else B := iteF h
end
end Dz

/-! Typed data: how a value of a Lean type stands in the heap. -/
namespace Dz
open PySem L2

class Enc (α : Type) where
  enc : α → PyData
  deep : Nat
  ok : α → Bool
  lay : ∀ x : α, ok x = true → (enc x).canLay0 = true
  dep : ∀ x : α, (enc x).depth ≤ deep
class EncEq (α : Type) [Enc α] [DecidableEq α] : Prop where
  eqv : ∀ a b : α, PyData.eqv (Enc.enc a) (Enc.enc b) = decide (a = b)

theorem layAll_map {α : Type} {f : α → PyData} {ok : α → Bool} (h : ∀ x, ok x = true → (f x).canLay0 = true) : ∀ l : List α, l.all ok = true → PyData.canLayAll0 (l.map f) = true
  | [], _ => rfl
  | x :: r, e => by
    rw [List.all_cons, Bool.and_eq_true] at e
    show PyData.canLayAll0 (f x :: r.map f) = true
    simp only [PyData.canLayAll0, h x e.1, layAll_map h r e.2, Bool.and_self]
theorem depAll_map {α : Type} {f : α → PyData} {n : Nat} (h : ∀ x, (f x).depth ≤ n) : ∀ l : List α, PyData.depthAll (l.map f) ≤ n
  | [] => Nat.zero_le _
  | x :: r => by
    show PyData.depthAll (f x :: r.map f) ≤ n
    simp only [PyData.depthAll]
    exact Nat.max_le.mpr ⟨h x, depAll_map h r⟩

instance : Enc Int := ⟨.int, 0, fun _ => true, fun _ _ => rfl, fun _ => Nat.le_refl _⟩
instance : Enc Str := ⟨.str, 0, fun x => PyData.strOk x, fun x h => h, fun _ => Nat.le_refl _⟩
instance : Enc Bool := ⟨.bool, 0, fun _ => true, fun _ _ => rfl, fun _ => Nat.le_refl _⟩
instance {α : Type} [Enc α] : Enc (List α) := ⟨fun l => .list (l.map Enc.enc), Enc.deep α + 1, fun l => l.all Enc.ok, fun l h => layAll_map Enc.lay l h, fun l => Nat.succ_le_succ (depAll_map Enc.dep l)⟩
instance {α β : Type} [Enc α] [Enc β] : Enc (α × β) := ⟨fun p => .tuple [Enc.enc p.1, Enc.enc p.2], max (Enc.deep α) (Enc.deep β) + 1, fun p => Enc.ok p.1 && Enc.ok p.2,
  fun p h => by
    rw [Bool.and_eq_true] at h
    show PyData.canLayAll0 [Enc.enc p.1, Enc.enc p.2] = true
    simp only [PyData.canLayAll0, Enc.lay _ h.1, Enc.lay _ h.2, Bool.and_self],
  fun p => Nat.succ_le_succ (by
    show PyData.depthAll [Enc.enc p.1, Enc.enc p.2] ≤ _
    simp only [PyData.depthAll]
    have h1 := Enc.dep p.1
    have h2 := Enc.dep p.2
    omega)⟩
/-- a tuple of three -/
structure T3 (α β γ : Type) where
  a : α
  b : β
  c : γ
  deriving DecidableEq
instance {α β γ : Type} [Enc α] [Enc β] [Enc γ] : Enc (T3 α β γ) := ⟨fun p => .tuple [Enc.enc p.a, Enc.enc p.b, Enc.enc p.c], max (Enc.deep α) (max (Enc.deep β) (Enc.deep γ)) + 1, fun p => Enc.ok p.a && (Enc.ok p.b && Enc.ok p.c),
  fun p h => by
    rw [Bool.and_eq_true, Bool.and_eq_true] at h
    show PyData.canLayAll0 [Enc.enc p.a, Enc.enc p.b, Enc.enc p.c] = true
    simp only [PyData.canLayAll0, Enc.lay _ h.1, Enc.lay _ h.2.1, Enc.lay _ h.2.2, Bool.and_self],
  fun p => Nat.succ_le_succ (by
    show PyData.depthAll [Enc.enc p.a, Enc.enc p.b, Enc.enc p.c] ≤ _
    simp only [PyData.depthAll]
    have h1 := Enc.dep p.a
    have h2 := Enc.dep p.b
    have h3 := Enc.dep p.c
    omega)⟩
/-- a tuple of any length -/
structure Tu (α : Type) where
  l : List α
  deriving DecidableEq
instance {α : Type} [Enc α] : Enc (Tu α) := ⟨fun l => .tuple (l.l.map Enc.enc), Enc.deep α + 1, fun l => l.l.all Enc.ok, fun l h => layAll_map Enc.lay l.l h, fun l => Nat.succ_le_succ (depAll_map Enc.dep l.l)⟩

instance : EncEq Int := ⟨fun a b => by
  show (a == b) = _
  by_cases h : a = b <;> simp [h]⟩
instance : EncEq Str := ⟨fun a b => by
  show (a == b) = _
  by_cases h : a = b <;> simp [h]⟩
instance : EncEq Bool := ⟨fun a b => by
  show (a == b) = _
  by_cases h : a = b <;> simp [h]⟩
theorem eqvAll_map {α : Type} [Enc α] [DecidableEq α] [EncEq α] : ∀ a b : List α, PyData.eqvAll (a.map Enc.enc) (b.map Enc.enc) = decide (a = b)
  | [], [] => by simp [PyData.eqvAll]
  | x :: xs, y :: ys => by
    simp only [List.map_cons, PyData.eqvAll, EncEq.eqv, eqvAll_map xs ys, List.cons.injEq, Bool.decide_and]
  | [], _ :: _ => by simp [PyData.eqvAll]
  | _ :: _, [] => by simp [PyData.eqvAll]
instance {α : Type} [Enc α] [DecidableEq α] [EncEq α] : EncEq (List α) := ⟨fun a b => by
  show PyData.eqv (.list (a.map Enc.enc)) (.list (b.map Enc.enc)) = _
  rw [PyData.eqv]
  exact eqvAll_map a b⟩
instance {α : Type} [Enc α] [DecidableEq α] [EncEq α] : EncEq (Tu α) := ⟨fun a b => by
  show PyData.eqv (.tuple (a.l.map Enc.enc)) (.tuple (b.l.map Enc.enc)) = _
  rw [PyData.eqv, eqvAll_map]
  cases a; cases b
  simp⟩
instance {α β : Type} [Enc α] [Enc β] [DecidableEq α] [DecidableEq β] [EncEq α] [EncEq β] : EncEq (α × β) := ⟨fun a b => by
  obtain ⟨a1, a2⟩ := a
  obtain ⟨b1, b2⟩ := b
  show PyData.eqv (.tuple [Enc.enc a1, Enc.enc a2]) (.tuple [Enc.enc b1, Enc.enc b2]) = _
  simp [PyData.eqv, PyData.eqvAll, EncEq.eqv]⟩
instance {α β γ : Type} [Enc α] [Enc β] [Enc γ] [DecidableEq α] [DecidableEq β] [DecidableEq γ] [EncEq α] [EncEq β] [EncEq γ] : EncEq (T3 α β γ) := ⟨fun a b => by
  obtain ⟨a1, a2, a3⟩ := a
  obtain ⟨b1, b2, b3⟩ := b
  show PyData.eqv (.tuple [Enc.enc a1, Enc.enc a2, Enc.enc a3]) (.tuple [Enc.enc b1, Enc.enc b2, Enc.enc b3]) = _
  simp [PyData.eqv, PyData.eqvAll, EncEq.eqv]⟩

/-! data whose lists are tracked -/
mutual
inductive Dt (K : PySem.W.Frag) (H : Hp) : V → PyData → Prop
  | non : Dt K H .non .none
  | bl (b : Bool) : Dt K H (.bl b) (.bool b)
  | int (i : Int) : Dt K H (.int i) (.int i)
  | str (x : Str) : Dt K H (.str x) (.str x)
  | lst {a : Addr} {xs : List V} {ds : List PyData} : H a = some (.lst xs) → DtAll K H xs ds → Dt K H (.ref a) (.list ds)
  | tup {a : Addr} {xs : List V} {ds : List PyData} : SqT K H a xs → DtAll K H xs ds → Dt K H (.ref a) (.tuple ds)
inductive DtAll (K : PySem.W.Frag) (H : Hp) : List V → List PyData → Prop
  | nil : DtAll K H [] []
  | cons {v : V} {vs : List V} {d : PyData} {ds : List PyData} : Dt K H v d → DtAll K H vs ds → DtAll K H (v :: vs) (d :: ds)
end
section
variable {K : PySem.W.Frag} {I I' : Hp}
mutual
theorem Dt.same (e : Same I I') : ∀ (d : PyData) (v : V), Dt K I v d → Dt K I' v d
  | .none, _, h => by cases h; exact .non
  | .bool _, _, h => by cases h; exact .bl _
  | .int _, _, h => by cases h; exact .int _
  | .str _, _, h => by cases h; exact .str _
  | .list ds, _, h => by
    cases h with
    | lst hs ha => exact .lst (e _ _ hs) (Dt.sameAll e ds _ ha)
  | .tuple ds, _, h => by
    cases h with
    | tup hs ha => exact .tup (Same.seqT e hs) (Dt.sameAll e ds _ ha)
  | .dict _, _, h => by cases h
theorem Dt.sameAll (e : Same I I') : ∀ (ds : List PyData) (vs : List V), DtAll K I vs ds → DtAll K I' vs ds
  | [], _, h => by cases h; exact .nil
  | d :: ds, _, h => by
    cases h with
    | cons h1 h2 => exact .cons (Dt.same e d _ h1) (Dt.sameAll e ds _ h2)
end
mutual
theorem Dt.dp : ∀ (d : PyData) (v : V), Dt K I v d → Dp K I v d
  | .none, _, h => by cases h; exact .non
  | .bool _, _, h => by cases h; exact .bl _
  | .int _, _, h => by cases h; exact .int _
  | .str _, _, h => by cases h; exact .str _
  | .list ds, _, h => by
    cases h with
    | lst hs ha => exact .lst (SqL.of hs) (Dt.dpAll ds _ ha)
  | .tuple ds, _, h => by
    cases h with
    | tup hs ha => exact .tup hs (Dt.dpAll ds _ ha)
  | .dict _, _, h => by cases h
theorem Dt.dpAll : ∀ (ds : List PyData) (vs : List V), DtAll K I vs ds → DpAll K I vs ds
  | [], _, h => by cases h; exact .nil
  | d :: ds, _, h => by
    cases h with
    | cons h1 h2 => exact .cons (Dt.dp d _ h1) (Dt.dpAll ds _ h2)
end
end
/-- the value v is x, in what stands still -/
def Rp {α : Type} [Enc α] (K : PySem.W.Frag) (I : Hp) (v : V) (x : α) : Prop := Dt K I v (Enc.enc x)
/-- values of a list -/
def Rps {α : Type} [Enc α] (K : PySem.W.Frag) (I : Hp) (vs : List V) (xs : List α) : Prop := DtAll K I vs (xs.map Enc.enc)

section
variable {K : PySem.W.Frag} {I I' H : Hp} {α β γ : Type} [Enc α] [Enc β] [Enc γ]
theorem Rp.same {v : V} {x : α} (e : Same I I') (h : Rp K I v x) : Rp K I' v x := Dt.same e _ _ h
theorem Rps.same {vs : List V} {xs : List α} (e : Same I I') (h : Rps K I vs xs) : Rps K I' vs xs := Dt.sameAll e _ _ h
theorem Rps.nil : Rps K I [] ([] : List α) := DtAll.nil
theorem Rps.cons {v : V} {vs : List V} {x : α} {xs : List α} (h : Rp K I v x) (r : Rps K I vs xs) : Rps K I (v :: vs) (x :: xs) := DtAll.cons h r
theorem Rps.inv {vs : List V} {x : α} {xs : List α} (h : Rps K I vs (x :: xs)) : ∃ v ws, vs = v :: ws ∧ Rp K I v x ∧ Rps K I ws xs := by
  have h : DtAll K I vs (Enc.enc x :: xs.map Enc.enc) := h
  cases h with
  | cons a b => exact ⟨_, _, rfl, a, b⟩
theorem Rps.inv0 {vs : List V} (h : Rps K I vs ([] : List α)) : vs = [] := by
  have h : DtAll K I vs [] := h
  cases h
  rfl
theorem Rps.app : ∀ {xs ys : List α} {vs ws : List V}, Rps K I vs xs → Rps K I ws ys → Rps K I (vs ++ ws) (xs ++ ys)
  | [], _, _, _, h, r => by
    rw [h.inv0]
    exact r
  | _ :: _, _, _, _, h, r => by
    obtain ⟨v, ws, rfl, a, b⟩ := h.inv
    exact Rps.cons a (Rps.app b r)
theorem Rps.len : ∀ {xs : List α} {vs : List V}, Rps K I vs xs → vs.length = xs.length
  | [], _, h => by rw [h.inv0]; rfl
  | _ :: _, _, h => by
    obtain ⟨v, ws, rfl, a, b⟩ := h.inv
    exact congrArg (· + 1) (Rps.len b)
theorem Rps.get : ∀ {xs : List α} {vs : List V} {i : Nat} {v : V}, Rps K I vs xs → vs[i]? = some v → ∃ x, xs[i]? = some x ∧ Rp K I v x
  | [], _, i, v, h, e => by
    rw [h.inv0] at e
    simp at e
  | x :: _, _, 0, v, h, e => by
    obtain ⟨u, ws, rfl, a, b⟩ := h.inv
    simp only [List.getElem?_cons_zero, Option.some.injEq] at e
    subst e
    exact ⟨x, rfl, a⟩
  | _ :: _, _, i + 1, v, h, e => by
    obtain ⟨u, ws, rfl, a, b⟩ := h.inv
    simp only [List.getElem?_cons_succ] at e ⊢
    exact Rps.get b e
theorem Rps.at {vs : List V} {xs : List α} {i : Nat} {x : α} (r : Rps K I vs xs) (e : xs[i]? = some x) : ∃ v, vs[i]? = some v ∧ Rp K I v x := by
  have hi : i < vs.length := by
    rw [r.len]
    exact (List.getElem?_eq_some_iff.mp e).1
  obtain ⟨y, e2, h⟩ := r.get (List.getElem?_eq_getElem hi)
  rw [e] at e2
  cases e2
  exact ⟨_, List.getElem?_eq_getElem hi, h⟩
theorem Rps.take : ∀ (n : Nat) {xs : List α} {vs : List V}, Rps K I vs xs → Rps K I (vs.take n) (xs.take n)
  | 0, _, _, _ => Rps.nil
  | n + 1, [], _, h => by rw [h.inv0]; exact Rps.nil
  | n + 1, _ :: _, _, h => by
    obtain ⟨u, ws, rfl, a, b⟩ := h.inv
    exact Rps.cons a (Rps.take n b)
theorem Rps.drop : ∀ (n : Nat) {xs : List α} {vs : List V}, Rps K I vs xs → Rps K I (vs.drop n) (xs.drop n)
  | 0, _, _, h => h
  | n + 1, [], _, h => by rw [h.inv0]; exact Rps.nil
  | n + 1, _ :: _, _, h => by
    obtain ⟨u, ws, rfl, a, b⟩ := h.inv
    exact Rps.drop n b
theorem Rps.rev : ∀ {xs : List α} {vs : List V}, Rps K I vs xs → Rps K I vs.reverse xs.reverse
  | [], _, h => by rw [h.inv0]; exact Rps.nil
  | _ :: _, _, h => by
    obtain ⟨u, ws, rfl, a, b⟩ := h.inv
    rw [List.reverse_cons, List.reverse_cons]
    exact (Rps.rev b).app (Rps.cons a Rps.nil)
theorem Rps.eraseIdx (n : Nat) {xs : List α} {vs : List V} (r : Rps K I vs xs) : Rps K I (vs.eraseIdx n) (xs.eraseIdx n) := by
  rw [List.eraseIdx_eq_take_drop_succ, List.eraseIdx_eq_take_drop_succ]
  exact (Rps.take n r).app (Rps.drop (n + 1) r)
/-- a list, opened -/
theorem Rp.list {v : V} {xs : List α} (h : Rp K I v xs) : ∃ a vs, v = .ref a ∧ I a = some (.lst vs) ∧ Rps K I vs xs := by
  have h : Dt K I v (.list (xs.map Enc.enc)) := h
  cases h with
  | lst s r => exact ⟨_, _, rfl, s, r⟩
theorem Rp.tu {v : V} {xs : Tu α} (h : Rp K I v xs) : ∃ a vs, v = .ref a ∧ SqT K I a vs ∧ Rps K I vs xs.l := by
  have h : Dt K I v (.tuple (xs.l.map Enc.enc)) := h
  cases h with
  | tup s r => exact ⟨_, _, rfl, s, r⟩
theorem Rp.pair {v : V} {x : α × β} (h : Rp K I v x) : ∃ a v1 v2, v = .ref a ∧ SqT K I a [v1, v2] ∧ Rp K I v1 x.1 ∧ Rp K I v2 x.2 := by
  have h : Dt K I v (.tuple [Enc.enc x.1, Enc.enc x.2]) := h
  cases h with
  | tup s r =>
    cases r with
    | cons r1 r =>
      cases r with
      | cons r2 r =>
        cases r
        exact ⟨_, _, _, rfl, s, r1, r2⟩
theorem Rp.t3 {v : V} {x : T3 α β γ} (h : Rp K I v x) : ∃ a v1 v2 v3, v = .ref a ∧ SqT K I a [v1, v2, v3] ∧ Rp K I v1 x.a ∧ Rp K I v2 x.b ∧ Rp K I v3 x.c := by
  have h : Dt K I v (.tuple [Enc.enc x.a, Enc.enc x.b, Enc.enc x.c]) := h
  cases h with
  | tup s r =>
    cases r with
    | cons r1 r =>
      cases r with
      | cons r2 r =>
        cases r with
        | cons r3 r =>
          cases r
          exact ⟨_, _, _, _, rfl, s, r1, r2, r3⟩
theorem Rp.mkList {a : Addr} {vs : List V} {xs : List α} (s : I a = some (.lst vs)) (r : Rps K I vs xs) : Rp K I (.ref a) xs := Dt.lst s r
theorem Rp.mkTu {a : Addr} {vs : List V} {xs : List α} (s : SqT K I a vs) (r : Rps K I vs xs) : Rp K I (.ref a) (Tu.mk xs) := Dt.tup s r
theorem Rp.mkPair {a : Addr} {v1 v2 : V} {x : α} {y : β} (s : SqT K I a [v1, v2]) (r1 : Rp K I v1 x) (r2 : Rp K I v2 y) : Rp K I (.ref a) (x, y) := Dt.tup s (.cons r1 (.cons r2 .nil))
theorem Rp.mkT3 {a : Addr} {v1 v2 v3 : V} {x : α} {y : β} {z : γ} (s : SqT K I a [v1, v2, v3]) (r1 : Rp K I v1 x) (r2 : Rp K I v2 y) (r3 : Rp K I v3 z) : Rp K I (.ref a) (T3.mk x y z) := Dt.tup s (.cons r1 (.cons r2 (.cons r3 .nil)))
theorem Rp.int {v : V} {x : Int} (h : Rp K I v x) : v = .int x := by
  have h : Dt K I v (.int x) := h
  cases h
  rfl
theorem Rp.str {v : V} {x : Str} (h : Rp K I v x) : v = .str x := by
  have h : Dt K I v (.str x) := h
  cases h
  rfl
theorem Rp.bool {v : V} {x : Bool} (h : Rp K I v x) : v = .bl x := by
  have h : Dt K I v (.bool x) := h
  cases h
  rfl
theorem Rp.ofInt (x : Int) : Rp K I (.int x) x := Dt.int x
theorem Rp.ofStr (x : Str) : Rp K I (.str x) x := Dt.str x
theorem Rp.ofBool (x : Bool) : Rp K I (.bl x) x := Dt.bl x
theorem Rps.ints : ∀ {l : List Int}, Rps K I (l.map V.int) l
  | [] => Rps.nil
  | x :: _ => Rps.cons (Rp.ofInt x) Rps.ints
theorem Rps.strs : ∀ {l : List Str}, Rps K I (l.map V.str) l
  | [] => Rps.nil
  | x :: _ => Rps.cons (Rp.ofStr x) Rps.strs
theorem Rps.bools : ∀ {l : List Bool}, Rps K I (l.map V.bl) l
  | [] => Rps.nil
  | x :: _ => Rps.cons (Rp.ofBool x) Rps.bools
theorem Rps.ofInts : ∀ {l : List Int} {vs : List V}, Rps K I vs l → vs = l.map V.int
  | [], _, h => h.inv0
  | _ :: _, _, h => by
    obtain ⟨u, ws, rfl, a, b⟩ := h.inv
    rw [List.map_cons, Rp.int a, Rps.ofInts b]
theorem Rps.ofStrs : ∀ {l : List Str} {vs : List V}, Rps K I vs l → vs = l.map V.str
  | [], _, h => h.inv0
  | _ :: _, _, h => by
    obtain ⟨u, ws, rfl, a, b⟩ := h.inv
    rw [List.map_cons, Rp.str a, Rps.ofStrs b]
theorem Rps.ofBools : ∀ {l : List Bool} {vs : List V}, Rps K I vs l → vs = l.map V.bl
  | [], _, h => h.inv0
  | _ :: _, _, h => by
    obtain ⟨u, ws, rfl, a, b⟩ := h.inv
    rw [List.map_cons, Rp.bool a, Rps.ofBools b]
theorem Rp.strs {v : V} {l : List Str} (h : Rp K I v l) : ∃ a, v = .ref a ∧ I a = some (.lst (l.map V.str)) := by
  obtain ⟨a, vs, rfl, s, r⟩ := h.list
  rw [r.ofStrs] at s
  exact ⟨a, rfl, s⟩
theorem Rp.ints {v : V} {l : List Int} (h : Rp K I v l) : ∃ a, v = .ref a ∧ I a = some (.lst (l.map V.int)) := by
  obtain ⟨a, vs, rfl, s, r⟩ := h.list
  rw [r.ofInts] at s
  exact ⟨a, rfl, s⟩
theorem shaped_enc (x : α) (o : Enc.ok x = true) (h : Enc.deep α ≤ 64 := by decide) : SeqAt.shaped (Enc.enc x) = true := by
  unfold SeqAt.shaped
  rw [Enc.lay x o, Bool.true_and]
  exact decide_eq_true (Nat.le_trans (Enc.dep x) h)
section
variable [DecidableEq α] [EncEq α] {Q : VK} {a b : V} {x y : α}
theorem x_eqT (h1 : Rp K H a x) (h2 : Rp K H b y) (o1 : Enc.ok x = true) (o2 : Enc.ok y = true) (k : Q (.bl (decide (x = y))) H) (h : Enc.deep α ≤ 64 := by decide) : rEqD K a b H Q :=
  x_eqD (Dt.dp _ _ h1) (Dt.dp _ _ h2) (shaped_enc x o1 h) (shaped_enc y o2 h) (by rw [EncEq.eqv]; exact k)
theorem x_neT (h1 : Rp K H a x) (h2 : Rp K H b y) (o1 : Enc.ok x = true) (o2 : Enc.ok y = true) (k : Q (.bl (!decide (x = y))) H) (h : Enc.deep α ≤ 64 := by decide) : rNeD K a b H Q :=
  x_neD (Dt.dp _ _ h1) (Dt.dp _ _ h2) (shaped_enc x o1 h) (shaped_enc y o2 h) (by rw [EncEq.eqv]; exact k)
end
end

/-! ### items at open places -/
theorem atI_some {α : Type} {l : List α} {i : Int} (h0 : 0 ≤ i) (h1 : i < l.length) : ∃ x, atI l i = some x ∧ l[i.toNat]? = some x := by
  obtain ⟨j, rfl⟩ : ∃ j : Nat, i = j := ⟨i.toNat, by omega⟩
  have hi : j < l.length := by omega
  exact ⟨l[j], atI_nat (List.getElem?_eq_getElem hi), by simpa using List.getElem?_eq_getElem hi⟩
theorem atI_map {α β : Type} {f : α → β} {l : List α} {i : Int} (h0 : 0 ≤ i) (h1 : i < l.length) : ∃ x, atI (l.map f) i = some (f x) ∧ l[i.toNat]? = some x ∧ x ∈ l := by
  obtain ⟨y, e1, e2⟩ := atI_some (l := l.map f) h0 (by simpa using h1)
  rw [List.getElem?_map] at e2
  cases e : l[i.toNat]? with
  | none => rw [e] at e2; cases e2
  | some x =>
    rw [e] at e2
    cases e2
    exact ⟨x, e1, rfl, List.mem_of_getElem? e⟩
end Dz

/-! Loops and comprehensions over the split heap. -/
namespace Dz
open PySem L2

section
variable {σ : L2.St} {H I : Hp} {Q : VK} {K : PySem.W.Frag} {M : List (Addr × HO)} {Z : List (Addr × HO) → Prop}
variable {tl te : TE} {g : TG} {tb : TS} {tt : TT} {vs : List Nat} {tr : TA}
variable {nx bk ct : L2.St → Hp → Prop} {rt : VK}

/-- the rest of a for, once its object is known -/
def ForK (J : It) (g : TG) (tb : TS) (D : Ends) (σ : L2.St) (H : Hp) : Prop := ∃ W : Nat → Nat → L2.St → Hp → Prop, (∃ m, W 0 m σ H) ∧ ∀ i m σ H, W i m σ H →
  (J.stop i H ∧ D.nx σ H) ∨ (J.go i H ∧ ∃ N : L2.St → Hp → Prop, (∀ σ' H', N σ' H' → ∃ m', m' < m ∧ W (i + 1) m' σ' H') ∧ ∀ x H', J.yld i H x H' → g x σ H' fun σ2 H2 => tb { D with nx := N, ct := N, bk := D.nx } σ2 H2)
theorem x_for {wi : TI} {D : Ends} (k : wi σ H fun J H1 => ForK J g tb D σ H1) : tFor wi g tb D σ H := k
def LcK (J : It) (g : TG) (tt : TT) (te : TE) (vs : List Nat) (σ : L2.St) (H1 : Hp) (Q : VK) : Prop := ∀ D, H1 D = none → ∃ W : Nat → Nat → Hp → Prop, (∃ m, W 0 m (upd H1 D (.lst []))) ∧ ∀ i m H, W i m H →
  (J.stop i H ∧ Q (.ref D) H) ∨ (J.go i H ∧ ∃ Nx : Hp → Prop, (∀ H', Nx H' → ∃ m', m' < m ∧ W (i + 1) m' H') ∧ ∀ x H', J.yld i H x H' → g x (wipe σ vs) H' fun σ2 H2 => wipe σ2 vs = wipe σ vs ∧ tt σ2 H2 fun b H3 =>
    if b = true then te σ2 H3 fun y H4 => ∃ acc, H4 D = some (.lst acc) ∧ acc.length < sizeLine ∧ Nx (upd H4 D (.lst (acc ++ [y]))) else Nx H3)
theorem x_lc {wi : TI} (k : wi σ H fun J H1 => LcK J g tt te vs σ H1 Q) : tLc wi g tt te vs σ H Q := k
theorem x_iL {R : It → Hp → Prop} (k : tl σ H fun x H1 => ∃ a, x = .ref a ∧ (∃ xs, SqL K H1 a xs) ∧ R (Itl K a) H1) : iList K tl σ H R := k
theorem x_refL {p : Addr} {xs : List V} {P : Addr → Prop} (h : SqL K H p xs) (k : P p) : ∃ a, V.ref p = .ref a ∧ (∃ xs, SqL K H a xs) ∧ P a := ⟨p, rfl, ⟨xs, h⟩, k⟩
theorem x_refT {p : Addr} {xs : List V} {P : Addr → Prop} (h : SqT K H p xs) (k : P p) : ∃ a, V.ref p = .ref a ∧ (∃ xs, SqT K H a xs) ∧ P a := ⟨p, rfl, ⟨xs, h⟩, k⟩
theorem x_range1 {R : It → Hp → Prop} (k : tr σ H fun vs H1 => ∃ j : Int, vs = [.int j] ∧ -(2 ^ 62) ≤ j ∧ j < 2 ^ 62 ∧ R (Itr 0 j.toNat) H1) : iRng1 tr σ H R := k
theorem x_rng1 {n : Int} {P : Int → Prop} (h0 : 0 ≤ n) (h1 : n ≤ 1000000) (k : P n) : ∃ j : Int, [V.int n] = [.int j] ∧ -(2 ^ 62) ≤ j ∧ j < 2 ^ 62 ∧ P j := ⟨n, rfl, by omega, by omega, k⟩

variable {α β : Type} [Enc α] [Enc β]
/-- behind a turn -/
def Nx (I : Hp) (Z : List (Addr × HO) → Prop) (J : L2.St → Hp → List (Addr × HO) → Prop) : L2.St → Hp → Prop := fun σ H => ∃ I' M', Same I I' ∧ Own H I' M' Z ∧ J σ I' M'
/-- for x in a list of data -/
theorem x_forL {p : Addr} {xs : List V} {l : List α} (S : Own H I M Z) (hx : I p = some (.lst xs)) (rx : Rps K I xs l) (J : Nat → L2.St → Hp → List (Addr × HO) → Prop) (h0 : J 0 σ I M)
    (hs : ∀ i x v σ' I' M' H', l[i]? = some x → Same I I' → Rp K I' v x → Own H' I' M' Z → J i σ' I' M' → g v σ' H' fun σ2 H2 => tb ⟨Nx I Z (J (i + 1)), rt, nx, Nx I Z (J (i + 1))⟩ σ2 H2)
    (hd : ∀ σ' I' M' H', Same I I' → Own H' I' M' Z → J l.length σ' I' M' → nx σ' H') : ForK (Itl K p) g tb ⟨nx, rt, bk, ct⟩ σ H := by
  refine for_list (K := K) (a := p) (xs := xs) (fun i σ' H' => Nx I Z (J i) σ' H') ⟨I, M, Same.refl _, S, h0⟩ (fun i σ' H' _ ⟨I', M', e, S', _⟩ => SqL.of (S'.imm _ _ (e _ _ hx))) ?_ ?_
  · rintro i v σ' H' hv ⟨I', M', e, S', j⟩
    obtain ⟨x, hx', rv⟩ := rx.get hv
    exact hs i x v σ' I' M' H' hx' e (rv.same e) S' j
  · rintro σ' H' ⟨I', M', e, S', j⟩
    rw [rx.len] at j
    exact hd σ' I' M' H' e S' j
/-- for x in a tuple of data -/
theorem x_forT {p : Addr} {xs : List V} {l : List α} (S : Own H I M Z) (hx : SqT K I p xs) (rx : Rps K I xs l) (J : Nat → L2.St → Hp → List (Addr × HO) → Prop) (h0 : J 0 σ I M)
    (hs : ∀ i x v σ' I' M' H', l[i]? = some x → Same I I' → Rp K I' v x → Own H' I' M' Z → J i σ' I' M' → g v σ' H' fun σ2 H2 => tb ⟨Nx I Z (J (i + 1)), rt, nx, Nx I Z (J (i + 1))⟩ σ2 H2)
    (hd : ∀ σ' I' M' H', Same I I' → Own H' I' M' Z → J l.length σ' I' M' → nx σ' H') : ForK (Itt K p) g tb ⟨nx, rt, bk, ct⟩ σ H := by
  refine for_tup (K := K) (a := p) (xs := xs) (fun i σ' H' => Nx I Z (J i) σ' H') ⟨I, M, Same.refl _, S, h0⟩ (fun i σ' H' _ ⟨I', M', e, S', _⟩ => Same.seqT (e.trans S'.imm) hx) ?_ ?_
  · rintro i v σ' H' hv ⟨I', M', e, S', j⟩
    obtain ⟨x, hx', rv⟩ := rx.get hv
    exact hs i x v σ' I' M' H' hx' e (rv.same e) S' j
  · rintro σ' H' ⟨I', M', e, S', j⟩
    rw [rx.len] at j
    exact hd σ' I' M' H' e S' j
/-- for k in range(n) -/
theorem x_forR {n : Nat} (S : Own H I M Z) (J : Nat → L2.St → Hp → List (Addr × HO) → Prop) (h0 : J 0 σ I M)
    (hs : ∀ i σ' I' M' H', i < n → Same I I' → Own H' I' M' Z → J i σ' I' M' → g (.int (0 + i)) σ' H' fun σ2 H2 => tb ⟨Nx I Z (J (i + 1)), rt, nx, Nx I Z (J (i + 1))⟩ σ2 H2)
    (hd : ∀ σ' I' M' H', Same I I' → Own H' I' M' Z → J n σ' I' M' → nx σ' H') : ForK (Itr 0 n) g tb ⟨nx, rt, bk, ct⟩ σ H := by
  refine for_range (lo := 0) (n := n) (fun i σ' H' => Nx I Z (J i) σ' H') ⟨I, M, Same.refl _, S, h0⟩ ?_ ?_
  · rintro i σ' H' hi ⟨I', M', e, S', j⟩
    exact hs i σ' I' M' H' hi e S' j
  · rintro σ' H' ⟨I', M', e, S', j⟩
    exact hd σ' I' M' H' e S' j

/-- what a comprehension has made so far, owned -/
def LcP (I : Hp) (M : List (Addr × HO)) (Z : List (Addr × HO) → Prop) (D : Addr) (J : Nat → List V → Hp → Prop) (i : Nat) (H : Hp) : Prop := ∃ acc, acc.length ≤ i ∧ ∃ I', Same I I' ∧ Own H I' ((D, .lst acc) :: M) Z ∧ J i acc I'
/-- an element is made -/
def LcE (I : Hp) (M : List (Addr × HO)) (Z : List (Addr × HO) → Prop) (D : Addr) (J : Nat → List V → Hp → Prop) (i : Nat) (y : V) (H : Hp) : Prop := ∃ acc, H D = some (.lst acc) ∧ acc.length < sizeLine ∧ LcP I M Z D J i (upd H D (.lst (acc ++ [y])))
theorem x_lcE {D : Addr} {J : Nat → List V → Hp → Prop} {i : Nat} {y : V} {acc : List V} {I4 : Hp} (e : Same I I4) (S : Own H I4 ((D, .lst acc) :: M) Z) (hl : acc.length ≤ i) (hz : i < sizeLine) (j : J (i + 1) (acc ++ [y]) I4) : LcE I M Z D J (i + 1) y H := by
  refine ⟨acc, S.get (i := 0) rfl, Nat.lt_of_le_of_lt hl hz, acc ++ [y], ?_, I4, e, S.set 0 rfl, j⟩
  rw [List.length_append, List.length_singleton]
  omega
theorem x_lcS {D : Addr} {J : Nat → List V → Hp → Prop} {i : Nat} {acc : List V} {I4 : Hp} (e : Same I I4) (S : Own H I4 ((D, .lst acc) :: M) Z) (hl : acc.length ≤ i) (j : J (i + 1) acc I4) : LcP I M Z D J (i + 1) H :=
  ⟨acc, Nat.le_succ_of_le hl, I4, e, S, j⟩
theorem x_lcL {p : Addr} {xs : List V} {l : List α} (S : Own H I M Z) (hx : I p = some (.lst xs)) (rx : Rps K I xs l) (J : Nat → List V → Hp → Prop) (h0 : J 0 [] I)
    (hs : ∀ i x v acc D I' H', l[i]? = some x → Same I I' → Rp K I' v x → Own H' I' ((D, .lst acc) :: M) Z → acc.length ≤ i → J i acc I' → g v (wipe σ vs) H' fun σ2 H2 => wipe σ2 vs = wipe σ vs ∧ tt σ2 H2 fun b H3 =>
      if b = true then te σ2 H3 (LcE I M Z D J (i + 1)) else LcP I M Z D J (i + 1) H3)
    (hd : ∀ D acc I' H', Same I I' → Own H' I' ((D, .lst acc) :: M) Z → J l.length acc I' → Q (.ref D) H') : LcK (Itl K p) g tt te vs σ H Q := by
  intro D hD
  have S0 : Own (upd H D (.lst [])) I ((D, .lst []) :: M) Z := S.newM hD
  refine lc_list (K := K) (a := p) (xs := xs) (LcP I M Z D J) ⟨[], Nat.le_refl _, I, Same.refl _, S0, h0⟩
    (fun i H' _ ⟨acc, _, I', e, S', _⟩ => SqL.of (S'.imm _ _ (e _ _ hx))) ?_ ?_
  · rintro i v H' hv ⟨acc, hl, I', e, S', j⟩
    obtain ⟨x, hx', rv⟩ := rx.get hv
    exact hs i x v acc D I' H' hx' e (rv.same e) S' hl j
  · rintro H' ⟨acc, hl, I', e, S', j⟩
    rw [rx.len] at j
    exact hd D acc I' H' e S' j
/-- over a list that is owned, or any that stays -/
theorem x_lcO {p : Addr} {xs : List V} {l : List α} (S : Own H I M Z) (hx : ∀ D acc I' H', Same I I' → Own H' I' ((D, .lst acc) :: M) Z → SqL K H' p xs) (rx : Rps K I xs l) (J : Nat → List V → Hp → Prop) (h0 : J 0 [] I)
    (hs : ∀ i x v acc D I' H', l[i]? = some x → Same I I' → Rp K I' v x → Own H' I' ((D, .lst acc) :: M) Z → acc.length ≤ i → J i acc I' → g v (wipe σ vs) H' fun σ2 H2 => wipe σ2 vs = wipe σ vs ∧ tt σ2 H2 fun b H3 =>
      if b = true then te σ2 H3 (LcE I M Z D J (i + 1)) else LcP I M Z D J (i + 1) H3)
    (hd : ∀ D acc I' H', Same I I' → Own H' I' ((D, .lst acc) :: M) Z → J l.length acc I' → Q (.ref D) H') : LcK (Itl K p) g tt te vs σ H Q := by
  intro D hD
  have S0 : Own (upd H D (.lst [])) I ((D, .lst []) :: M) Z := S.newM hD
  refine lc_list (K := K) (a := p) (xs := xs) (LcP I M Z D J) ⟨[], Nat.le_refl _, I, Same.refl _, S0, h0⟩
    (fun i H' _ ⟨acc, _, I', e, S', _⟩ => hx D acc I' H' e S') ?_ ?_
  · rintro i v H' hv ⟨acc, hl, I', e, S', j⟩
    obtain ⟨x, hx', rv⟩ := rx.get hv
    exact hs i x v acc D I' H' hx' e (rv.same e) S' hl j
  · rintro H' ⟨acc, hl, I', e, S', j⟩
    rw [rx.len] at j
    exact hd D acc I' H' e S' j
/-- behind a turn of a while -/
def Nw (I : Hp) (Z : List (Addr × HO) → Prop) (J : Nat → L2.St → Hp → List (Addr × HO) → Prop) (m : Nat) : L2.St → Hp → Prop := fun σ H => ∃ m', m' < m ∧ Nx I Z (J m') σ H
def WhK (I : Hp) (Z : List (Addr × HO) → Prop) (J : Nat → L2.St → Hp → List (Addr × HO) → Prop) (m : Nat) (tb : TS) (rt : VK) (nx : L2.St → Hp → Prop) (σ : L2.St) (b : Bool) (H : Hp) : Prop :=
  if b = true then ∃ N : L2.St → Hp → Prop, (∀ σ' H', N σ' H' → ∃ m', m' < m ∧ Nx I Z (J m') σ' H') ∧ tb ⟨N, rt, nx, N⟩ σ H else nx σ H
theorem x_wh {J : Nat → L2.St → Hp → List (Addr × HO) → Prop} {m : Nat} {b : Bool} (h1 : b = true → tb ⟨Nw I Z J m, rt, nx, Nw I Z J m⟩ σ H) (h2 : b = false → nx σ H) : WhK I Z J m tb rt nx σ b H := by
  unfold WhK
  cases b with
  | true => rw [if_pos rfl]; exact ⟨_, fun _ _ h => h, h1 rfl⟩
  | false => rw [if_neg Bool.false_ne_true]; exact h2 rfl
/-- while -/
theorem x_while {c : TT} (J : Nat → L2.St → Hp → List (Addr × HO) → Prop) (S : Own H I M Z) (m0 : Nat) (h0 : J m0 σ I M)
    (hs : ∀ m σ' I' M' H', Same I I' → Own H' I' M' Z → J m σ' I' M' → c σ' H' (WhK I Z J m tb rt nx σ')) : tWhile c tb ⟨nx, rt, bk, ct⟩ σ H := by
  refine ⟨fun m σ H => Nx I Z (J m) σ H, ⟨m0, I, M, Same.refl _, S, h0⟩, ?_⟩
  rintro m σ' H' ⟨I', M', e, S', j⟩
  exact hs m σ' I' M' H' e S' j
theorem x_lcT {p : Addr} {xs : List V} {l : List α} (S : Own H I M Z) (hx : SqT K I p xs) (rx : Rps K I xs l) (J : Nat → List V → Hp → Prop) (h0 : J 0 [] I)
    (hs : ∀ i x v acc D I' H', l[i]? = some x → Same I I' → Rp K I' v x → Own H' I' ((D, .lst acc) :: M) Z → acc.length ≤ i → J i acc I' → g v (wipe σ vs) H' fun σ2 H2 => wipe σ2 vs = wipe σ vs ∧ tt σ2 H2 fun b H3 =>
      if b = true then te σ2 H3 (LcE I M Z D J (i + 1)) else LcP I M Z D J (i + 1) H3)
    (hd : ∀ D acc I' H', Same I I' → Own H' I' ((D, .lst acc) :: M) Z → J l.length acc I' → Q (.ref D) H') : LcK (Itt K p) g tt te vs σ H Q := by
  intro D hD
  have S0 : Own (upd H D (.lst [])) I ((D, .lst []) :: M) Z := S.newM hD
  refine lc_tup (K := K) (a := p) (xs := xs) (LcP I M Z D J) ⟨[], Nat.le_refl _, I, Same.refl _, S0, h0⟩
    (fun i H' _ ⟨acc, _, I', e, S', _⟩ => Same.seqT (e.trans S'.imm) hx) ?_ ?_
  · rintro i v H' hv ⟨acc, hl, I', e, S', j⟩
    obtain ⟨x, hx', rv⟩ := rx.get hv
    exact hs i x v acc D I' H' hx' e (rv.same e) S' hl j
  · rintro H' ⟨acc, hl, I', e, S', j⟩
    rw [rx.len] at j
    exact hd D acc I' H' e S' j
theorem x_lcR {n : Nat} (S : Own H I M Z) (J : Nat → List V → Hp → Prop) (h0 : J 0 [] I)
    (hs : ∀ i acc D I' H', i < n → Same I I' → Own H' I' ((D, .lst acc) :: M) Z → acc.length ≤ i → J i acc I' → g (.int (0 + i)) (wipe σ vs) H' fun σ2 H2 => wipe σ2 vs = wipe σ vs ∧ tt σ2 H2 fun b H3 =>
      if b = true then te σ2 H3 (LcE I M Z D J (i + 1)) else LcP I M Z D J (i + 1) H3)
    (hd : ∀ D acc I' H', Same I I' → Own H' I' ((D, .lst acc) :: M) Z → J n acc I' → Q (.ref D) H') : LcK (Itr 0 n) g tt te vs σ H Q := by
  intro D hD
  have S0 : Own (upd H D (.lst [])) I ((D, .lst []) :: M) Z := S.newM hD
  refine lc_range (lo := 0) (n := n) (LcP I M Z D J) ⟨[], Nat.le_refl _, I, Same.refl _, S0, h0⟩ ?_ ?_
  · rintro i H' hi ⟨acc, hl, I', e, S', j⟩
    exact hs i acc D I' H' hi e S' hl j
  · rintro H' ⟨acc, hl, I', e, S', j⟩
    exact hd D acc I' H' e S' j
theorem x_yes {QB : Bool → Hp → Prop} (k : QB true H) : tYes σ H QB := k
theorem filt_succ {α β : Type} {l : List α} {i : Nat} {x : α} (p : α → Bool) (f : α → β) (h : l[i]? = some x) : ((l.take (i + 1)).filter p).map f = ((l.take i).filter p).map f ++ (if p x = true then [f x] else []) := by
  rw [List.take_add_one, h, Option.toList_some, List.filter_append, List.map_append]
  by_cases q : p x = true
  · rw [if_pos q, List.filter_cons_of_pos q, List.filter_nil, List.map_singleton]
  · rw [if_neg q, List.filter_cons_of_neg q, List.filter_nil, List.map_nil]
/-- [f(x) for x in l if p(x)], the result data: what is asked of a turn -/
def FmE (K : PySem.W.Frag) (I : Hp) (M : List (Addr × HO)) (Z : List (Addr × HO) → Prop) (y : V) (fx : β) (H : Hp) : Prop := ∃ I4, Same I I4 ∧ Own H I4 M Z ∧ Rp K I4 y fx
end
end Dz

/-! Texts as lists of signs; words in lists. -/
namespace Dz
open PySem L2

/-- a text's signs -/
abbrev sg (z : Str) : List Nat := z.cps.toList
def ofL (l : List Nat) : Str := ⟨l.toArray⟩
theorem sg_ofL (l : List Nat) : sg (ofL l) = l := by simp [sg, ofL]
theorem ofL_sg (z : Str) : ofL (sg z) = z := by cases z; simp [sg, ofL]
theorem sg_inj {a b : Str} (h : sg a = sg b) : a = b := by rw [← ofL_sg a, ← ofL_sg b, h]
theorem sg_app (a b : Str) : sg (a ++ b) = sg a ++ sg b := by
  cases a; cases b
  show (_ ++ _ : Array Nat).toList = _
  simp [sg]
theorem ofL_app (a b : List Nat) : ofL a ++ ofL b = ofL (a ++ b) := sg_inj (by rw [sg_app, sg_ofL, sg_ofL, sg_ofL])
theorem len_sg (z : Str) : z.length = (sg z).length := by
  show z.cps.size = _
  simp [sg]
theorem len_app (a b : Str) : (a ++ b).length = a.length + b.length := by rw [len_sg, sg_app, List.length_append, len_sg, len_sg]
theorem sg_one (c : Nat) : sg ⟨#[c]⟩ = [c] := rfl
theorem len_one (c : Nat) : (⟨#[c]⟩ : Str).length = 1 := rfl
theorem eqV_str (a b : Str) : eqV (.str a) (.str b) = decide (a = b) := by
  first
  | rfl
  | (unfold eqV; by_cases h : a = b <;> simp [h])
theorem inV_str (x : Str) (l : List Str) : inV (.str x) (l.map V.str) = decide (x ∈ l) := by
  unfold inV
  rw [List.any_map]
  induction l with
  | nil => simp
  | cons y r ih =>
    rw [List.any_cons, ih]
    simp only [Function.comp_apply, eqV_str]
    by_cases h : y = x
    · subst h; simp
    · have h2 : ¬ x = y := fun e => h e.symm
      simp [h, h2]
theorem flat_strs (l : List Str) : (l.map V.str).all flatV = true := by
  rw [List.all_map]
  exact List.all_eq_true.mpr fun _ _ => rfl
section
variable {K : PySem.W.Frag} {H I : Hp} {Q : VK} {p : Addr} {x : Str} {l : List Str}
theorem x_inStrs (h : SqL K H p (l.map V.str)) (k : Q (.bl (decide (x ∈ l))) H) : rIn K false (.str x) (.ref p) H Q := x_in h rfl (flat_strs l) (by rw [inV_str]; exact k)
theorem x_niStrs (h : SqL K H p (l.map V.str)) (k : Q (.bl (!decide (x ∈ l))) H) : rIn K true (.str x) (.ref p) H Q := x_notIn h rfl (flat_strs l) (by rw [inV_str]; exact k)
theorem x_niStrsT (h : SqT K H p (l.map V.str)) (k : Q (.bl (!decide (x ∈ l))) H) : rIn K true (.str x) (.ref p) H Q := x_notInT h rfl (flat_strs l) (by rw [inV_str]; exact k)
theorem x_inStrsT (h : SqT K H p (l.map V.str)) (k : Q (.bl (decide (x ∈ l))) H) : rIn K false (.str x) (.ref p) H Q := x_inT h rfl (flat_strs l) (by rw [inV_str]; exact k)
/-- z[i] at an open place -/
theorem x_ixSo {z : Str} {j : Int} (hz : z.length ≤ sizeLine) (h0 : 0 ≤ j) (h1 : j < z.length) (k : ∀ c, c ∈ sg z → (sg z)[j.toNat]? = some c → Q (.str ⟨#[c]⟩) H) : rIxS (.str z) (.int j) H Q := by
  obtain ⟨c, e1, e2⟩ := atI_some (l := z.cps.toList) h0 (by rw [len_sg] at h1; exact h1)
  exact x_ixS hz e1 (k c (List.mem_of_getElem? e2) e2)
theorem x_slS {z : Str} {lo hi : Option Int} (hz : z.length ≤ sizeLine) (k : Q (.str (cutS z lo hi)) H) : rSlS (.str z) lo hi H Q := ⟨z, rfl, hz, k⟩
end
theorem sIx_nat (n d k : Nat) : HT.sIx n d (some (k : Int)) = min k n := by
  unfold HT.sIx
  simp only []
  first
  | omega
  | (split <;> omega)
theorem cutS_take (z : Str) (k : Nat) : sg (cutS z none (some (k : Int))) = (sg z).take k := by
  unfold cutS
  rw [sIx_nat]
  simp only [HT.sIx]
  have e : z.length = (sg z).length := len_sg z
  simp only [sg] at *
  rw [List.drop_zero, Nat.sub_zero, e]
  rw [← List.take_take, List.take_length]
theorem cutS_drop (z : Str) (k : Nat) : sg (cutS z (some (k : Int)) none) = (sg z).drop k := by
  unfold cutS
  rw [sIx_nat]
  simp only [HT.sIx]
  have e : z.length = (sg z).length := len_sg z
  simp only [sg] at *
  rw [e]
  by_cases h : k ≤ z.cps.toList.length
  · rw [Nat.min_eq_left h]
    rw [show z.cps.toList.length - k = (z.cps.toList.drop k).length by rw [List.length_drop]]
    rw [List.take_length]
  · rw [Nat.min_eq_right (by omega), Nat.sub_self, List.take_zero]
    rw [List.drop_eq_nil_of_le (by omega)]

/-- for c in a text -/
theorem x_iS {te : TE} {σ : L2.St} {H : Hp} {R : It → Hp → Prop} (k : te σ H fun v H1 => ∃ x, v = .str x ∧ R (Its x) H1) : iStr te σ H R := k
theorem x_strE {z : Str} {P : Str → Prop} (k : P z) : ∃ x, V.str z = .str x ∧ P x := ⟨z, rfl, k⟩
section
variable {σ : L2.St} {H I : Hp} {M : List (Addr × HO)} {Z : List (Addr × HO) → Prop} {g : TG} {tb : TS} {nx bk ct : L2.St → Hp → Prop} {rt : VK}
theorem x_forS {z : Str} (S : Own H I M Z) (J : Nat → L2.St → Hp → List (Addr × HO) → Prop) (h0 : J 0 σ I M)
    (hs : ∀ i c σ' I' M' H', (sg z)[i]? = some c → Same I I' → Own H' I' M' Z → J i σ' I' M' → g (.str ⟨#[c]⟩) σ' H' fun σ2 H2 => tb ⟨Nx I Z (J (i + 1)), rt, nx, Nx I Z (J (i + 1))⟩ σ2 H2)
    (hd : ∀ σ' I' M' H', Same I I' → Own H' I' M' Z → J (sg z).length σ' I' M' → nx σ' H') : ForK (Its z) g tb ⟨nx, rt, bk, ct⟩ σ H := by
  have hl : z.cps.size = (sg z).length := len_sg z
  refine ⟨fun i m σ' H' => m = (sg z).length - i ∧ i ≤ (sg z).length ∧ Nx I Z (J i) σ' H', ⟨_, rfl, Nat.zero_le _, I, M, Same.refl _, S, h0⟩, ?_⟩
  rintro i m σ' H' ⟨rfl, hi, I', M', e, S', j⟩
  by_cases hlt : i < (sg z).length
  · refine .inr ⟨by show i < z.cps.size; omega, Nx I Z (J (i + 1)), fun σ2 H2 n => ⟨_, by omega, rfl, hlt, n⟩, fun x H2 y => ?_⟩
    obtain ⟨rfl, c, ec, rfl⟩ := y
    exact hs i c σ' I' M' H2 (by simpa [sg] using ec) e S' j
  · have : i = (sg z).length := by omega
    subst this
    exact .inl ⟨by show z.cps.size ≤ _; omega, hd σ' I' M' H' e S' j⟩
end
theorem cutV_drop (xs : List V) (k : Nat) : cutV xs (some (k : Int)) none = xs.drop k := by
  unfold cutV
  rw [sIx_nat]
  simp only [HT.sIx]
  by_cases h : k ≤ xs.length
  · rw [Nat.min_eq_left h]
    rw [show xs.length - k = (xs.drop k).length by rw [List.length_drop]]
    rw [List.take_length]
  · rw [Nat.min_eq_right (by omega), Nat.sub_self, List.take_zero]
    rw [List.drop_eq_nil_of_le (by omega)]
theorem cutV_take (xs : List V) (k : Nat) : cutV xs none (some (k : Int)) = xs.take k := by
  unfold cutV
  rw [sIx_nat]
  simp only [HT.sIx]
  rw [List.drop_zero, Nat.sub_zero, ← List.take_take, List.take_length]
theorem eqV_bl (a b : Bool) : eqV (.bl a) (.bl b) = decide (a = b) := by cases a <;> cases b <;> rfl
theorem inV_bl (x : Bool) (l : List Bool) : inV (.bl x) (l.map V.bl) = decide (x ∈ l) := by
  unfold inV
  rw [List.any_map]
  induction l with
  | nil => simp
  | cons y r ih =>
    rw [List.any_cons, ih]
    simp only [Function.comp_apply, eqV_bl]
    by_cases h : y = x
    · subst h; simp
    · have h2 : ¬ x = y := fun e => h e.symm
      simp [h, h2]
theorem flat_bls (l : List Bool) : (l.map V.bl).all flatV = true := by
  rw [List.all_map]
  exact List.all_eq_true.mpr fun _ _ => rfl
section
variable {K : PySem.W.Frag} {H : Hp} {Q : VK} {p : Addr} {x : Bool} {l : List Bool}
theorem x_inBls (h : SqL K H p (l.map V.bl)) (k : Q (.bl (decide (x ∈ l))) H) : rIn K false (.bl x) (.ref p) H Q := x_in h rfl (flat_bls l) (by rw [inV_bl]; exact k)
theorem x_niBls (h : SqL K H p (l.map V.bl)) (k : Q (.bl (!decide (x ∈ l))) H) : rIn K true (.bl x) (.ref p) H Q := x_notIn h rfl (flat_bls l) (by rw [inV_bl]; exact k)
end
end Dz

/-! Steps that the program's own text asks for. -/
namespace Dz
open PySem L2

section
variable {σ : L2.St} {H : Hp} {Q : VK} {ta tb tc : TE} {K : PySem.W.Frag}
theorem x_chain {r r' : R2} (k : ta σ H fun x H1 => tb σ H1 fun y H2 => r x y H2 fun z H3 => ∃ c, z = .bl c ∧ if c = true then tc σ H3 fun w' H4 => r' y w' H4 Q else Q (.bl false) H3) : tChain r r' ta tb tc σ H Q := k
theorem x_all {p : Addr} {bs : List Bool} (h : SqL K H p (bs.map V.bl)) (k : Q (.bl (bs.all id)) H) : rAll K [.ref p] H Q := ⟨p, bs, rfl, h, k⟩
theorem x_any {p : Addr} {bs : List Bool} (h : SqL K H p (bs.map V.bl)) (k : Q (.bl (bs.any id)) H) : rAny K [.ref p] H Q := ⟨p, bs, rfl, h, k⟩
end
section
variable {X : Cx} {K : PySem.W.Frag}
theorem c_all (hc : X.calm = true) (hK : X.K = K := by rfl) : CallR X (.builtin "all") (rAll K) := hK ▸ cr_all hc
theorem c_any (hc : X.calm = true) (hK : X.K = K := by rfl) : CallR X (.builtin "any") (rAny K) := hK ▸ cr_any hc
end
section
variable {σ : L2.St} {H I : Hp} {M : List (Addr × HO)} {Z : List (Addr × HO) → Prop} {g : TG} {tt : TT} {te : TE} {vs : List Nat} {Q : VK}
/-- over a text -/
theorem x_lcStr {z : Str} (S : Own H I M Z) (J : Nat → List V → Hp → Prop) (h0 : J 0 [] I)
    (hs : ∀ i c acc D I' H', (sg z)[i]? = some c → Same I I' → Own H' I' ((D, .lst acc) :: M) Z → acc.length ≤ i → J i acc I' → g (.str ⟨#[c]⟩) (wipe σ vs) H' fun σ2 H2 => wipe σ2 vs = wipe σ vs ∧ tt σ2 H2 fun b H3 =>
      if b = true then te σ2 H3 (LcE I M Z D J (i + 1)) else LcP I M Z D J (i + 1) H3)
    (hd : ∀ D acc I' H', Same I I' → Own H' I' ((D, .lst acc) :: M) Z → J (sg z).length acc I' → Q (.ref D) H') : LcK (Its z) g tt te vs σ H Q := by
  intro D hD
  have hl : z.cps.size = (sg z).length := len_sg z
  have S0 : Own (upd H D (.lst [])) I ((D, .lst []) :: M) Z := S.newM hD
  refine ⟨fun i m H' => m = (sg z).length - i ∧ i ≤ (sg z).length ∧ LcP I M Z D J i H', ⟨_, rfl, Nat.zero_le _, [], Nat.le_refl _, I, Same.refl _, S0, h0⟩, ?_⟩
  rintro i m H' ⟨rfl, hi, acc, hacc, I', e, S', j⟩
  by_cases hlt : i < (sg z).length
  · refine .inr ⟨by show i < z.cps.size; omega, LcP I M Z D J (i + 1), fun H2 n => ⟨_, by omega, rfl, hlt, n⟩, fun x H2 y => ?_⟩
    obtain ⟨rfl, c, ec, rfl⟩ := y
    exact hs i c acc D I' H2 (by simpa [sg] using ec) e S' hacc j
  · have : i = (sg z).length := by omega
    subst this
    exact .inl ⟨by show z.cps.size ≤ _; omega, hd D acc I' H' e S' j⟩
end
end Dz

/-! A comprehension whose element lets an exception out of a call. -/
namespace Dz
open PySem PySem.Spec PyProof.Rows L2

theorem note_same {v : Value} {e1 e2 : Env} (h : e1.frame = e2.frame) : noteFrame v e1 = noteFrame v e2 := by
  unfold noteFrame PySem.frameOf
  rw [h]
/-- an exception that a call let out, noted below, its flight any -/
def Fly (P : Program) (w : World) (outer : List Env) (H : Hp) (s : Shared) (E : XK) (u : Value) (s' : Shared) : Prop :=
  ∃ (a : Addr) (B : Heap) (H' : Hp) (cls : Value) (d : Option Addr) (fl : Value), u = .ref a ∧ B.StaysIn s'.heap ∧ B.get? a = none ∧ s'.heap.FunFrames B outer ∧
    HandSPX.TracedZ s'.heap B a (Zc cls d) fl ∧ HOk P w H' B ∧ UB (frs outer) H H' s.heap B s'.heap ∧ H' a = none ∧ s'.os = s.os ∧ AllBare s'.gens ∧ E cls d H'
def PassAny (X : Cx) (E : XK) : Prop := ∀ (pins : List (Addr × Obj)) (σ : L2.St) (H : Hp) (s : Shared) (u : Value) (s' : Shared), Inv X pins σ H s → Fly X.prog X.w X.stack H s E u s' → X.xe u s'
section
variable {M : Model} {A : Around} {E : Value → Shared → Prop} {s : Shared} {Z : Obj → Prop} {base : Heap} {env : Env} {outer : List Env} {L e : Addr} {fl : Value}
theorem leave_any {Q : Unit → Shared → Prop} (hZ : HandSPX.Steady Z) (hfr : A.frames = some (env :: outer)) (hf : env.frame = some L) (kb : base.StaysIn s.heap) (ke : base.get? e = none)
    (kf : s.heap.FunFrames base (env :: outer)) (kt : HandSPX.TracedZ s.heap base e Z fl)
    (hQ : ∀ h', HandSPX.FlyingZ base outer e Z h' → s.heap.UpToSlots h' → Q () { s with heap := h' }) : wpAny M A (leaving env (.ref e)) Q E s := by
  have kt' := kt
  obtain ⟨oe, vs, T, oT, ts, q1, q2, q3, q4, q5, q6, q7, q8, q9⟩ := kt
  unfold leaving
  cases hfl : fl == rawInt L with
  | true =>
    refine wpAny_bind ?_
    unfold noteFrame
    simp only [hf]
    refine wpAny_bind (wpAny_field q1 q3 q4 ?_)
    rw [if_pos (by simp : (Value.ref T != Value.none) = true)]
    refine wpAny_bind (wpAny_field q7 q8 q9 ?_)
    rw [if_pos hfl]
    refine wpAny_pure (HandSPX.setFlight_noneZ kb kf kt' fun h' a1 a2 a3 a4 => ?_)
    obtain ⟨_, _, a5⟩ := a2
    exact hQ h' ⟨a1, ke, a5, a3⟩ a4
  | false =>
    unfold noteFrame
    simp only [hf]
    refine wpAny_bind (wpAny_bind (wpAny_field q1 q3 q4 ?_))
    rw [if_pos (by simp : (Value.ref T != Value.none) = true)]
    refine wpAny_bind (wpAny_field q7 q8 q9 ?_)
    rw [if_neg (by rw [hfl]; decide)]
    refine wpAny_bind (wpAny_setField q7 q8 (Array.getElem?_eq_some_iff.mp q9).1 ?_)
    generalize hh : s.heap.update T (Obj.mapFields (·.setIfInBounds 3 Value.none)) = h1
    have oth : ∀ b o, b ≠ T → s.heap.get? b = some o → h1.get? b = some o := fun b o hb ho => by
      rw [← hh, Heap.get?_update_other _ _ (Ne.symm hb)]
      exact ho
    have neT : ∀ b o, s.heap.get? b = some o → (∀ vs, o.data ≠ .fields vs) → b ≠ T := fun b o hb hn z => by
      subst z
      rw [q7] at hb
      cases hb
      exact hn ts q8
    refine HandSPX.wpAny_newEntryZ (base := base) (Z := Z) hZ hfr (kf.of_keeps fun b o hb hn => ⟨o, oth b o (neT b o hb hn) hb, rfl⟩) hf (oth e _ (Ne.symm q6) q1)
      (fun b o hb => oth b o (fun z => by subst z; rw [q5] at hb; cases hb) (kb b o hb)) ke q3 (Array.getElem?_eq_some_iff.mp q4).1 q2 fun h' hN => ?_
    obtain ⟨a1, ⟨_, _, a2⟩, a3, a4⟩ := hN
    exact hQ h' ⟨a1, ke, a2, a3⟩ fun b o hb hn => a4 b o (oth b o (neT b o hb hn) hb) hn
end
section
variable {X : Cx} {pins : List (Addr × Obj)} {σ : L2.St} {H H' : Hp} {s : Shared} {B h' h'' : Heap} {E : XK}
theorem ub_up (I : Inv X pins σ H s) (hs : X.stack = X.env :: X.outer) (hf : X.env.frame = some X.env.locals) (hex : X.ex = []) (ub : UB (frs X.stack) H H' s.heap B h') (up : h'.UpToSlots h'') : UB X.fs X.H_0 H' X.s_0.heap B h'' := by
  have hx : ∀ b, b ∉ X.ex := fun b => by rw [hex]; exact List.not_mem_nil
  have offS : ∀ b o, X.s_0.heap.get? b = some o → b ∉ X.fs → b ∉ frs X.stack := fun b o e hb on => by
    rcases List.mem_cons.mp (I.stkSub b on) with z | z
    · have h1 := Heap.lt_size e
      have h2 := I.ok.above
      rw [z] at h1
      exact absurd (Nat.lt_of_lt_of_le h1 h2) (Nat.lt_irrefl _)
    · exact hb z
  have sub : ∀ b, b ∈ X.fs → b ∈ frs X.stack := fun b hb => by
    rw [hs]
    show b ∈ List.filterMap _ _
    rw [List.filterMap_cons, hf]
    exact List.mem_cons_of_mem _ hb
  refine ⟨fun b o e n hb => ub.keep b o (I.base.keep b o e n hb (hx b)) (I.base.free b o e n (hx b)) (offS b o e hb), fun b o e hb => ?_, fun b o e n => ?_, fun b o e hb => ?_,
    fun b xs e => ub.tups b xs (I.base.tups b xs e), fun b o xs e => ub.frzs b o xs (I.base.frzs b o xs e), fun b ps e => ?_⟩
  · obtain ⟨_, o1, e1, hn⟩ := I.ok.funs.mem hb
    rw [e] at e1
    cases e1
    obtain ⟨sl, e2⟩ := I.base.slot b o e (I.ok.frf b hb) hb (hx b)
    obtain ⟨sl2, e3⟩ := ub.slot b _ e2 (sub b hb)
    obtain ⟨sl3, e4⟩ := up b _ e3 hn
    exact ⟨sl3, e4⟩
  · obtain ⟨o1, e1⟩ := I.base.there b o e (hx b)
    exact ub.free b o1 e1 (I.base.free b o e n (hx b))
  · obtain ⟨o1, e1⟩ := I.base.there b o e (hx b)
    exact ub.there b o1 e1 (offS b o e hb)
  · obtain ⟨t1, w1⟩ := I.base.tbls b ps e
    obtain ⟨t2, w2⟩ := ub.tbls b _ w1
    exact ⟨t1 ++ t2, by rw [w2, Array.append_assoc]⟩
/-- a def of CX takes it -/
theorem passAny_of (hs : X.stack = X.env :: X.outer) (hf : X.env.frame = some X.env.locals) (hex : X.ex = []) {E₁ : Value → Shared → Prop}
    (hx : X.xe = fun e s' => wpAny (model X.prog X.w) X.A (leaving X.env e) (fun _ s'' => CX X.prog X.w X.outer X.H_0 X.s_0 E e s'') E₁ s') : PassAny X E := by
  intro pins σ H s u s' I c
  obtain ⟨a, B, H', cls, d, fl, rfl, k1, k2, k3, k4, hok, ub, na, os, ag, hE⟩ := c
  rw [hx]
  have hfr : X.A.frames = some (X.env :: X.outer) := by rw [I.ok.frames, hs]
  rw [hs] at k3
  refine leave_any Zc.steady hfr hf k1 k2 k3 k4 fun h' fl' up => ?_
  exact ⟨a, B, H', cls, d, rfl, fl', hok, ub_up I hs hf hex ub up, na, os.trans I.os, ag, hE⟩
end
/-- frames, over another ground and another heap -/
theorem frames_move {B G h h' : Heap} : ∀ {l : List Env}, h.FunFrames B l → (∀ L, B.get? L = none → G.get? L = none) → (∀ L ∈ frs l, ∀ o, h.get? L = some o → h'.get? L = some o) → h'.FunFrames G l
  | [], _, _, _ => trivial
  | env :: l, h1, hG, hk => by
    obtain ⟨k1, ⟨L, o, k2, k3, k4, k5⟩, k6⟩ := h1
    refine ⟨k1, ⟨L, o, k2, hG L k3, hk L (List.mem_filterMap.mpr ⟨env, List.mem_cons_self, k2⟩) o k4, k5⟩, frames_move k6 hG fun b hb => hk b ?_⟩
    obtain ⟨e, he, q⟩ := List.mem_filterMap.mp hb
    exact List.mem_filterMap.mpr ⟨e, List.mem_cons_of_mem _ he, q⟩
section
variable {X : Cx} {pins pins' : List (Addr × Obj)} {σ σ' : L2.St} {H3 H9 : Hp} {s3 s9 s' : Shared} {E : XK} {scope : Scope} {ce : Env} {fp : List Addr} {C : Addr}
/-- out of the block: the variables are let go -/
theorem block_out (I3 : Inv X pins σ H3 s3) (hfp : ∀ b ∈ fp, FpOk X pins H3 b) (hstk : X.stack = X.env :: X.outer) (hf : X.env.frame = some X.env.locals) (cL : ce.locals = C) (cF : ce.frame = X.env.frame)
    (hC : s3.heap.get? C = none) {xe : Value → Shared → Prop} (I : Inv ((X.blk s3 H3 scope ce fp).wish xe) pins' σ' H9 s9) {u : Value} (c : CX X.prog X.w X.stack H9 s9 E u s') (hx : PassAny X E)
    {use : Option (Value → Sem Unit)} {Qf : Value → Shared → Prop} {acc : Value} :
    notedBy (model X.prog X.w) X.A ce (fun e s' => compPost (model X.prog X.w) X.A X.xe use Qf acc C (.error e) s') u s' := by
  obtain ⟨a, B, H', cls, d, rfl, fly, hok, ub, na, os, ag, hE⟩ := c
  have hfr : X.A.frames = some (X.env :: X.outer) := by rw [I3.ok.frames, hstk]
  show wpAny _ _ (noteFrame (.ref a) ce) _ _ s'
  rw [note_same (e2 := X.env) cF]
  rw [hstk] at fly
  refine HandSPX.looks_onZ Zc.steady hfr hf fly fun h1 held up1 => ?_
  rw [← hstk] at held
  obtain ⟨kb, ke, kf, kt⟩ := held
  -- the block's frame
  obtain ⟨m, hn, _⟩ := I.loc
  have hn : s9.heap.Ns ce.locals m := hn
  rw [cL] at hn
  have H9C : H9 C = none := by
    have z : H9 ce.locals = none := I.free
    rw [cL] at z
    exact z
  have nofs : ∀ b ∈ frs X.stack, ∃ o, s3.heap.get? b = some o ∧ ∀ vs, o.data ≠ .fields vs := fun b hb => (I.ok.funs.mem hb).2
  have Cfs : C ∉ frs X.stack := fun hb => by
    obtain ⟨o, e, _⟩ := nofs C hb
    rw [hC] at e
    cases e
  have nC : ∀ b o, s3.heap.get? b = some o → b ≠ C := fun b o e z => by
    subst z
    rw [hC] at e
    cases e
  have hn1 : h1.Ns C m := by
    obtain ⟨o, es, ep, ho, r⟩ := hn
    exact ⟨o, es, ep, kb C o (ub.keep C o ho H9C Cfs), r⟩
  have H'C : H' C = none := by
    obtain ⟨o, es, ep, ho, r⟩ := hn
    exact ub.free C o ho H9C
  have BC : ∃ o, B.get? C = some o := by
    obtain ⟨o, es, ep, ho, r⟩ := hn
    exact ⟨o, ub.keep C o ho H9C Cfs⟩
  have main : ∃ m, h1.Ns C m ∧ ∀ h', Heap.SameBut C h1 h' → ∀ cenv : Env, cenv.locals = C → wpAny (model X.prog X.w) X.A (PySem.passOn "comprehension.variables-let-go" (.ref a) cenv : Sem Value) (fun _ _ => False) X.xe { s' with heap := h' } := by
    refine ⟨m, hn1, fun hv sb cenv _ => ?_⟩
    obtain ⟨oC, eC⟩ := BC
    -- two grounds
    obtain ⟨G, g1, g2⟩ := L2.restrict hv fun b => (B.get? b).isSome
    obtain ⟨G2, j1, j2⟩ := L2.restrict hv fun b => (B.get? b).isSome || decide (b ∈ frs X.stack)
    have Gn : ∀ b, B.get? b = none → G.get? b = none := fun b e => g2 b (by simp [e])
    have Bv : ∀ b o, b ≠ C → B.get? b = some o → hv.get? b = some o := fun b o hb e => (sb.2 b hb).trans (kb b o e)
    have BG : ∀ b o, b ≠ C → B.get? b = some o → G.get? b = some o := fun b o hb e => (g1 b (by simp [e])).trans (Bv b o hb e)
    have BG2 : ∀ b o, b ≠ C → B.get? b = some o → G2.get? b = some o := fun b o hb e => (j1 b (by simp [e])).trans (Bv b o hb e)
    have Gv : G.StaysIn hv := fun b o e => by
      cases q : (B.get? b).isSome with
      | false => rw [g2 b q] at e; cases e
      | true => rw [← g1 b q]; exact e
    have F2 : ∀ b, b ∈ frs X.stack → G2.get? b = hv.get? b := fun b hb => j1 b (by simp [hb])
    have fv : hv.FunFrames G X.stack := frames_move kf Gn fun L hL o e => (sb.2 L (fun z => Cfs (z ▸ hL))).trans e
    have tv : HandSPX.TracedZ hv G a (Zc cls d) (rawInt X.env.locals) := by
      obtain ⟨oe, vs, T, oT, ts, q1, q2, q3, q4, q5, q6, q7, q8, q9⟩ := kt
      have aC : a ≠ C := fun z => by rw [z, eC] at ke; cases ke
      have TC : T ≠ C := fun z => by rw [z, eC] at q5; cases q5
      exact ⟨oe, vs, T, oT, ts, (sb.2 a aC).trans q1, q2, q3, q4, Gn T q5, q6, (sb.2 T TC).trans q7, q8, q9⟩
    have hokG : HOk X.prog X.w H' G := fun b o q => (hok b o q).stay (fun c v hc r => BG c v (fun z => by
      rcases hc with hc | hc
      · rw [← hc, z, H'C] at q; cases q
      · rw [z, H'C] at hc; cases hc) r) (fun _ r => r) fun _ _ r => r
    have hokG2 : HOk X.prog X.w H' G2 := fun b o q => (hok b o q).stay (fun c v hc r => BG2 c v (fun z => by
      rcases hc with hc | hc
      · rw [← hc, z, H'C] at q; cases q
      · rw [z, H'C] at hc; cases hc) r) (fun _ r => r) fun _ _ r => r
    -- frames of s3, here
    have slotv : ∀ b o, s3.heap.get? b = some o → b ∈ frs X.stack → ∃ sl, hv.get? b = some { o with slots := sl } := fun b o e hb => by
      obtain ⟨o1, e1, hnf⟩ := nofs b hb
      rw [e] at e1
      cases e1
      have hbx : b ∉ fp := fun z => (I.ok.exfs b z) hb
      obtain ⟨sl, e2⟩ := I.base.slot b o e (I3.stkFree b hb) hb hbx
      obtain ⟨sl2, e3⟩ := ub.slot b _ e2 hb
      obtain ⟨sl3, e4⟩ := up1 b _ e3 hnf
      exact ⟨sl3, (sb.2 b (nC b o e)).trans e4⟩
    have J : Inv X pins σ H' { s' with heap := G2 } := by
      refine I3.call' (ch := fp) (os.trans I.os) ⟨fun b o e n hb hbx => ?_, fun b o e n hb hbx => ?_, fun b o e n hbx => ?_, fun b o e hbx => ?_, fun b xs e => ub.tups b xs (I.base.tups b xs e), fun b o xs e => ub.frzs b o xs (I.base.frzs b o xs e), fun b ps e => ?_⟩ hokG2 ag
        fun b hb => ⟨(hfp b hb).2.2.2.1, (hfp b hb).2.1, (hfp b hb).2.2.2.2.1, (hfp b hb).2.2.2.2.2⟩
      · exact BG2 b o (nC b o e) (ub.keep b o (I.base.keep b o e n hb hbx) (I.base.free b o e n hbx) hb)
      · obtain ⟨sl, e2⟩ := slotv b o e hb
        exact ⟨sl, (F2 b hb).trans e2⟩
      · obtain ⟨o1, e1⟩ := I.base.there b o e hbx
        exact ub.free b o1 e1 (I.base.free b o e n hbx)
      · by_cases hb : b ∈ frs X.stack
        · obtain ⟨sl, e2⟩ := slotv b o e hb
          exact ⟨_, (F2 b hb).trans e2⟩
        · obtain ⟨o1, e1⟩ := I.base.there b o e hbx
          obtain ⟨o2, e2⟩ := ub.there b o1 e1 hb
          exact ⟨o2, BG2 b o2 (nC b o e) e2⟩
      · obtain ⟨t1, w1⟩ := I.base.tbls b ps e
        obtain ⟨t2, w2⟩ := ub.tbls b _ w1
        exact ⟨t1 ++ t2, by rw [w2, Array.append_assoc]⟩
    have tv' := tv
    obtain ⟨oe, vs, T, oT, ts, q1, q2, q3, q4, q5, q6, q7, q8, q9⟩ := tv'
    unfold PySem.passOn
    refine wpAny_bind (wpAny_field q1 q3 q4 ?_)
    rw [if_neg (by simp : ¬ ((Value.ref T == Value.none) = true))]
    have fin : wpAny (model X.prog X.w) X.A (setFlight (.ref a) cenv.frame) (fun _ s4 => wpAny (model X.prog X.w) X.A (throw (.ref a) : Sem Value) (fun _ _ => False) X.xe s4) X.xe { s' with heap := hv } := by
      refine HandSPX.setFlight_anyZ (s := { s' with heap := hv }) Gv fv tv fun h2 k1 k2 k3 up2 => wpAny_throw (hx pins σ H' { s' with heap := G2 } (.ref a) { s' with heap := h2 } J ?_)
      refine ⟨a, G, H', cls, d, _, rfl, k1, Gn a ke, k2, k3, hokG, ⟨fun b o e n hb => ?_, fun b o e hb => ?_, fun b o e n => n, fun b o e hb => ?_, fun _ _ e => e, fun _ _ _ e => e, fun b ps e => ⟨#[], by rw [e]; simp⟩⟩, na, rfl, ag, hE⟩
      · have e : G2.get? b = some o := e
        cases q : (B.get? b).isSome with
        | false => rw [j2 b (by simp [q, hb])] at e; cases e
        | true => rw [g1 b q, ← j1 b (by simp [q])]; exact e
      · have e : G2.get? b = some o := e
        rw [F2 b hb] at e
        obtain ⟨_, o1, e1, hnf⟩ := fv.mem hb
        rw [e] at e1
        cases e1
        exact up2 b o e hnf
      · have e : G2.get? b = some o := e
        cases q : (B.get? b).isSome with
        | false => rw [j2 b (by simp [q, hb])] at e; cases e
        | true => exact ⟨o, by rw [g1 b q, ← j1 b (by simp [q])]; exact e⟩
    first
      | exact wpAny_bind (wpAny_pure (wpAny_bind fin))
      | exact wpAny_bind fin
  cases use <;> exact main
end
section
variable {X : Cx} {E : XK}
/-- the block's context, with a wish about exceptions -/
abbrev bx (X : Cx) (s : Shared) (H : Hp) (scope : Scope) (cl : List (Str × Addr)) (C : Addr) (fp : List Addr) (xe : Value → Shared → Prop) : Cx := (X.blk s H scope (compEnvC scope cl C X.env) fp).wish xe
/-- a list comprehension, its element may let an exception out of a call -/
theorem lcx {pins : List (Addr × Obj)} {s : Shared} {σ : L2.St} {H : Hp} {Q : VK} {elt tg iter : Expr} {ifs : List Expr} {scope : Scope} {own : List (Str × Nat)} {pos pos' : Pos} {wi : TI} {g : TG} {tt : TT} {te : TE}
    {use : Option (Value → Sem Unit)} {Qf : Value → Shared → Prop} (hc : X.calm = true) (hN : X.N.Nodup) (hstk : X.stack = X.env :: X.outer) (hf : X.env.frame = some X.env.locals) (hx : PassAny X E)
    (I : Inv X pins σ H s) (hi : PI X tg iter wi) (ok : BlkOk X.N X.env.scope scope own)
    (hg : ∀ s H C cl fp, PG (X.blk s H scope (compEnvC scope cl C X.env) fp) tg g) (ht : ∀ s H C cl fp, PTs (X.blk s H scope (compEnvC scope cl C X.env) fp) ifs tt)
    (he : ∀ s H C cl fp xe, Passes (CX X.prog X.w) (bx X s H scope cl C fp xe) E → PE (bx X s H scope cl C fp xe) elt te) (hs : ∀ x, foldedSetIterable iter X.env x = pure x)
    (h : tLc wi g tt te (own.map Prod.snd) σ H Q)
    (hend : ∀ D C s1 m H1, Inv X pins σ H1 s1 → Q (.ref D) H1 → s1.heap.Ns C m → FpOk X pins H1 C → compPost (model X.prog X.w) X.A X.xe use Qf (.ref D) C (.ok .next) s1) :
    wpAny (model X.prog X.w) X.A (comprehension (.ListComp elt [⟨tg, iter, ifs, 0⟩] scope pos) scope X.env pos' (newList []) false (eval iter X.env) use) Qf X.xe s := by
  have fre : ∀ y ∈ scope.names, y.2 = .free → ∃ c, X.env.cells.lookup y.1 = some c := fun y hy e => (ok.free y hy e).elim (fun k => I.ok.has _ (.inl k)) fun k => I.ok.has _ (.inr k)
  refine wpAny_comprehension_free (use := use) rfl hs (closure_ok fre) ok.kind (fun y hy e => (ok.uniq y hy).trans (by rw [e])) (thn (hi.run pins s σ H _ I h) fun v0 t0 z0 => thn z0 fun v1 t1 z1 => ?_)
  obtain ⟨it, fp, tn, J, G1, rfl, I1, T, b0, b1, run⟩ := z1
  refine wpAny_newObj_type (newEnv_comp ?_) (by decide : (0 : Nat) ≤ sizeLine)
  generalize hd : t1.heap.objs.size = D
  have nD : G1 D = none := I1.hok.fresh (Nat.le_of_eq hd)
  obtain ⟨W, ⟨k0, w0⟩, turn⟩ := run D nD
  generalize ht2 : ({ t1 with heap := t1.heap.push { cls := .type "list", data := .seq ([] : List Value).toArray } } : Shared) = t2
  have up2 : ∀ b o, t1.heap.get? b = some o → t2.heap.get? b = some o := fun b o e => by
    rw [← ht2]
    exact Heap.get?_push_of_some _ e
  have eD : t2.heap.get? D = some { cls := .type "list", data := .seq ([] : List Value).toArray } := by
    rw [← ht2, ← hd]
    exact Heap.get?_push_size _ rfl
  have sz2 : t2.heap.objs.size = t1.heap.objs.size + 1 := by
    rw [← ht2]
    exact Heap.size_push _ _
  have I2 : Inv X pins σ (upd G1 D (.lst [])) t2 := by
    have q := I1.laid (a := D) (o := .lst []) (h' := t2.heap) (t' := t1.toks) up2 (Nat.le_of_eq hd) ⟨Nat.zero_le _, [], 0, .nil, eD⟩
    rw [← ht2] at q ⊢
    exact q
  have fpok : ∀ b ∈ fp, FpOk X pins (upd G1 D (.lst [])) b ∧ b < t2.heap.objs.size := fun b hb => by
    obtain ⟨o, e, _⟩ := T.obj _ _ b0 b hb
    have hlt := Heap.lt_size e
    refine ⟨⟨?_, (b1 b hb).2⟩, by rw [sz2]; exact Nat.lt_succ_of_lt hlt⟩
    rw [upd_ne (Nat.ne_of_lt (hd ▸ hlt))]
    exact (b1 b hb).1
  have b2 : tn 0 t2.heap := T.keep _ _ _ b0 fun b _ o e => up2 b o e
  have I3 := block_start I2 ok hN fpok
  generalize hC : t2.heap.objs.size = C at I3 ⊢
  have cN : t2.heap.get? C = none := by
    cases e : t2.heap.get? C with
    | none => rfl
    | some o => exact absurd (Heap.lt_size e) (by rw [hC]; exact Nat.lt_irrefl _)
  generalize hcl : cellsFrom (C + 1) scope.names (cloFrom X.env.cells scope.names []) = cl at I3 ⊢
  generalize hG2 : upd G1 D (.lst []) = G2 at I2 I3 fpok w0
  have pg := hg t2 G2 C cl fp
  have pt := ht t2 G2 C cl fp
  generalize ht3 : ({ t2 with heap := pushCells (t2.heap.push { cls := .type "dict", data := .dict #[] }) scope.names } : Shared) = t3 at I3 ⊢
  show codeAny _ _ (.compStart _ 0 (.ref it) (.ref D) (compEnvC scope cl C X.env)) (compPost _ _ _ use Qf (.ref D) C) t3
  have b3 : tn 0 t3.heap := T.keep _ _ _ b2 fun b _ o e => by
    rw [← ht3]
    exact pushCells_keeps _ _ _ _ (Heap.get?_push_of_some _ e)
  have stat : ∀ {σ1 : L2.St} {K1 : Hp} {q1 : Shared}, Inv (X.blk t2 G2 scope (compEnvC scope cl C X.env) fp) [] σ1 K1 q1 → (∀ b ∈ fp, K1 b = none) → ∀ b ∈ fp, FpOk (X.blk t2 G2 scope (compEnvC scope cl C X.env) fp) [] K1 b := fun J1 z b hb =>
    ⟨z b hb, (J1.ok.exf b hb).1, J1.ok.exfs b hb, .inl hb, (J1.ok.exf b hb).2, fun p hp => absurd (show p ∈ ([] : List (Addr × Obj)) from hp) List.not_mem_nil⟩
  have pass : Passes (CX X.prog X.w) (bx X t2 G2 scope cl C fp (notedBy (model X.prog X.w) X.A (compEnvC scope cl C X.env) fun e q => compPost (model X.prog X.w) X.A X.xe use Qf (.ref D) C (.error e) q)) E := fun p1 σ1 K1 q1 u q2 J1 c1 =>
    block_out (ce := compEnvC scope cl C X.env) (C := C) I2 (fun b hb => (fpok b hb).1) hstk hf rfl rfl cN J1 c1 hx
  have pe := he t2 G2 C cl fp _ pass
  have loop : codeAny (model X.prog X.w) X.A (.compLoop (.ListComp elt [⟨tg, iter, ifs, 0⟩] scope pos) 0 (.ref it) (.ref D) (compEnvC scope cl C X.env)) (compPost (model X.prog X.w) X.A X.xe use Qf (.ref D) C) t3 := by
    refine compLoop_any (fun n q => ∃ i K1, Inv (X.blk t2 G2 scope (compEnvC scope cl C X.env) fp) [] (wipe σ (own.map Prod.snd)) K1 q ∧ tn i q.heap ∧ (∀ b ∈ fp, K1 b = none) ∧ W i n K1) ?_ k0
      ⟨0, G2, I3, b3, fun b hb => (fpok b hb).1.1, w0⟩
    rintro n q5 ⟨i, K5, J5, b5, n5, w5⟩
    rcases turn i n K5 w5 with ⟨stop, fine⟩ | ⟨go, Nx, hNx, step⟩
    · refine thnF (T.done (X.blk t2 G2 scope (compEnvC scope cl C X.env) fp) rfl rfl rfl hc i [] q5 _ K5 (fun _ _ => False) J5 (stat J5 n5) b5 stop) fun r q6 ⟨er, J6⟩ => ?_
      subst er
      obtain ⟨m, hn, _⟩ := J6.loc
      have J7 : Inv X pins σ K5 q6 := I2.call' (ch := fp) J6.os J6.base J6.hok J6.bare fun b hb => ⟨(fpok b hb).1.2.2.2.1, (fpok b hb).1.2.1, (fpok b hb).1.2.2.2.2.1, (fpok b hb).1.2.2.2.2.2⟩
      exact hend D C q6 m K5 J7 fine hn (I2.fpOk (Nat.le_of_eq hC) J6.free)
    · refine thnF (T.item (X.blk t2 G2 scope (compEnvC scope cl C X.env) fp) rfl rfl rfl hc i [] q5 _ K5 (fun _ _ => False) J5 (stat J5 n5) b5 go) fun r q6 ⟨w1, er, more⟩ => ?_
      subst er
      refine thnF more fun _ q7 ⟨x, K7, J7, r7, y7, b7, n7⟩ => ?_
      have J7p := J7.pinned (stat J7 n7) (T.obj _ _ b7)
      refine thnF (pg.run _ q7 _ K7 x w1 _ J7p r7 (step x K7 y7)) fun _ q8 ⟨σ8, K8, J8, wp8, f8⟩ => ?_
      refine thnF (pt.run _ q8 σ8 K8 _ J8 f8) fun b q9 ⟨K9, J9, f9⟩ => ?_
      have again : ∀ {q : Shared} {K' : Hp}, Inv (X.blk t2 G2 scope (compEnvC scope cl C X.env) fp) ([] ++ pinsAt fp q7.heap) σ8 K' q → Nx K' →
          ∃ m, m < n ∧ ∃ i K1, Inv (X.blk t2 G2 scope (compEnvC scope cl C X.env) fp) [] (wipe σ (own.map Prod.snd)) K1 q ∧ tn i q.heap ∧ (∀ b ∈ fp, K1 b = none) ∧ W i m K1 := fun {q K'} J' nx => by
        obtain ⟨m, hm, w'⟩ := hNx K' nx
        have still : ∀ b ∈ fp, ∀ o, q7.heap.get? b = some o → q.heap.get? b = some o ∧ K' b = none := fun b hb o e => by
          have z := J'.pin (b, o) (List.mem_append_right _ (List.mem_append_right _ (mem_pinsAt hb e)))
          exact ⟨z.1, z.2.1⟩
        have el : (wipe σ (own.map Prod.snd)).length = σ8.length := by rw [← wp8, wipe_length]
        refine ⟨m, hm, i + 1, K', (J'.unpinned (pins := [])).weak el (fun j v e => (wipe_some (wp8 ▸ e)).1), T.keep _ _ _ b7 fun b hb o e => (still b hb o e).1, fun b hb => ?_, w'⟩
        obtain ⟨o, e, _⟩ := T.obj _ _ b7 b hb
        exact (still b hb o e).2
      cases b with
      | false => exact again J9 f9
      | true =>
        refine thn (pe.run _ q9 σ8 K9 _ (J9.wish _) f9) fun z q10 ⟨yv, K10, J10, r10, acc, e10, l10, nx⟩ => ?_
        exact app_ok (X := X.blk t2 G2 scope (compEnvC scope cl C X.env) fp) J10.unwish e10 l10 r10 fun q11 J11 => again J11 nx
  exact codeAny_compStart_list loop (T.self X.A 0 _ _ _ b3 loop)
/-- .. as a value -/
theorem pe_lcx {elt tg iter : Expr} {ifs : List Expr} {scope : Scope} {own : List (Str × Nat)} {pos : Pos} {wi : TI} {g : TG} {tt : TT} {te : TE} (hc : X.calm = true) (hN : X.N.Nodup) (hstk : X.stack = X.env :: X.outer)
    (hf : X.env.frame = some X.env.locals) (hx : PassAny X E) (hi : PI X tg iter wi) (ok : BlkOk X.N X.env.scope scope own)
    (hg : ∀ s H C cl fp, PG (X.blk s H scope (compEnvC scope cl C X.env) fp) tg g) (ht : ∀ s H C cl fp, PTs (X.blk s H scope (compEnvC scope cl C X.env) fp) ifs tt)
    (he : ∀ s H C cl fp xe, Passes (CX X.prog X.w) (bx X s H scope cl C fp xe) E → PE (bx X s H scope cl C fp xe) elt te) (hs : ∀ x, foldedSetIterable iter X.env x = pure x := by intro _; rfl) :
    PE X (.ListComp elt [⟨tg, iter, ifs, 0⟩] scope pos) (tLc wi g tt te (own.map (·.2))) := by
  refine ⟨fun pins s σ H Q I h => ?_⟩
  rw [eval_ListComp]
  refine lcx hc hN hstk hf hx I hi ok hg ht he hs h fun D C s1 m H1 I1 q hn f => ⟨m, hn, fun h2 sb => ?_⟩
  obtain ⟨f0, f1, f2, f3, f4, f5⟩ := f
  have J := I1.turned (h' := h2) (t' := s1.toks) (fun b o hb e => (sb.2 b hb).trans e) f0 f1 f3 f4 f5
  exact ⟨.ref D, H1, J, rfl, q⟩
end
end Dz

/-! Errors of the program: what their making promises, what raising one asks. -/
namespace Dz
open PySem L2
/-- the fields that an error's __init__ sets -/
def spInit (C : Addr) (ns : List Str) : L2.Sp := fun vs H Q _ => ∃ (a : Addr) (xs : List V), vs = .ref a :: xs ∧ xs.length = ns.length ∧ H a = some (exo a C none) ∧
  ∀ d, d ≠ a → H d = none → Q .non (upd (upd H a (exo a C (some d))) d (exd d (ns.zip xs)))
/-- an error's class and the promise of its __init__ -/
structure Er (P : Program) (w : World) (K : PySem.W.Frag) (mg : Str → Option Value) (base : Heap) (x : Str) (C : Addr) (ns : List Str) : Prop where
  T : OexC K C
  ex : ∃ (fI : Addr) (fd : FuncData), PySem.W.findIn K (.ref C) "__init__" = some (some (.ref fI)) ∧ PySem.W.typeIn K (.ref fI) = some (.type "function") ∧ FnOk P w K mg base CX0 1 fI fd ("self" :: ns) (spInit C ns) ∧ Binds K fd ("self" :: ns) []
  m : mg x = some (.ref C)
section
variable {σ : L2.St} {H : Hp} {QX : XK} {C : Addr} {ns : List Str} {tr : TA} {dvs : List V}
/-- an error's value is made: its fields stand at d -/
def MkK (C : Addr) (ns : List Str) (QX : XK) (xs : List V) (H : Hp) : Prop := xs.length = ns.length ∧ xs.length ≤ 1000 ∧ ∀ d, H d = none → QX (.ref C) (some d) (upd H d (.xd (ns.zip xs)))
def tEr (C : Addr) (ns : List Str) (tr : TA) : L2.St → Hp → XK → Prop := fun σ H QX => tr σ H (MkK C ns QX)
theorem x_er (k : tr σ H (MkK C ns QX)) : tEr C ns tr σ H QX := k
end
theorem del_upd {H : Hp} {a : Addr} {o : HO} (h : H a = none) : del (upd H a o) a = H := by
  funext b
  by_cases hb : b = a
  · rw [hb, del_same, h]
  · rw [del_ne hb, upd_ne hb]
theorem MkK.mko {C : Addr} {ns : List Str} {QX : XK} {xs : List V} {H : Hp} (k : MkK C ns QX xs H) : xs.length ≤ 1000 ∧ ∀ a, H a = none → spInit C ns (.ref a :: (xs ++ [])) (upd H a (exo a C none))
    (fun v H2 => v = .non ∧ ∃ (d : Addr) (fs : List (Str × V)), H2 a = some (exo a C (some d)) ∧ H2 d = some (exd d fs) ∧ H d = none ∧ QX (.ref C) (some d) (upd (del H2 a) d (.xd fs))) (fun _ _ _ => False) := by
  obtain ⟨k1, k2, k3⟩ := k
  refine ⟨k2, fun a ha => ⟨a, xs, by rw [List.append_nil], k1, upd_same, fun d hd h => ⟨rfl, d, _, ?_, upd_same, ?_, ?_⟩⟩⟩
  · rw [upd_ne (Ne.symm hd), upd_same]
  · rwa [upd_ne hd] at h
  · have hn : H d = none := by rwa [upd_ne hd] at h
    have e : upd (del (upd (upd (upd H a (exo a C none)) a (exo a C (some d))) d (exd d (ns.zip xs))) a) d (.xd (ns.zip xs)) = upd H d (.xd (ns.zip xs)) := by
      funext b
      by_cases hb : b = d
      · rw [hb, upd_same, upd_same]
      · rw [upd_ne hb, upd_ne hb]
        by_cases hb2 : b = a
        · rw [hb2, del_same, ha]
        · rw [del_ne hb2, upd_ne hb, upd_ne hb2, upd_ne hb2]
    rw [e]
    exact k3 d hn
theorem pa_mono {X : Cx} {es : List Expr} {t : TA} (h : PA X es t) : PA X es (fun σ H Q => ∃ Q0, t σ H Q0 ∧ ∀ xs H1, Q0 xs H1 → Q xs H1) := by
  refine ⟨fun pos pins s σ H Q I q => ?_⟩
  obtain ⟨Q0, q0, k⟩ := q
  refine thn (h.run pos pins s σ H Q0 I q0) fun us s1 z => ?_
  obtain ⟨vs, H1, I1, r1, q1⟩ := z
  exact ⟨vs, H1, I1, r1, k _ _ q1⟩
/-- raise X(..) -/
def tRs (C : Addr) (ns : List Str) (tr : TA) (W : WX) : TS := fun _ σ H => tr σ H (MkK C ns fun cls d H' => W cls d σ H')
theorem x_rs {σ : L2.St} {H : Hp} {C : Addr} {ns : List Str} {tr : TA} {W : WX} {D : Ends} (k : tr σ H (MkK C ns fun cls d H' => W cls d σ H')) : tRs C ns tr W D σ H := k
theorem ps_er {X : Cx} {W : WX} {x : Str} {C : Addr} {ns : List Str} {p pos pos' : Pos} {e : Expr} {es : List Expr} {tr : TA} (B : Er X.prog X.w X.K X.mg X.base x C ns) (hc : X.calm = true) (tk : Takes X W) (hr : Room 2 X.A) (hg : Gl X x) (ha : PA X (e :: es) tr)
    (hdb : (x == ("__debug__" : Str)) = false := by decide) (he : starEach (e :: es) X.env = (false, eval e X.env) :: starEach es X.env := by rfl) (hpl : (backTo pos (starEach es X.env)).any (·.1) = false := by rfl) :
    PS X (.Raise (some (.Call (.Name x p) (e :: es) [] pos)) none pos') (tRs C ns tr W) := by
  obtain ⟨fI, fd, i1, i2, F, b⟩ := B.ex
  have z := ps_raise (pos := pos') hc tk (pmk_oex (p := p) (pos := pos) B.T i1 i2 F hr b .nil pass0 hg B.m (pa_mono ha) hdb he hpl)
  refine ⟨fun pins s σ H D I q => z.run pins s σ H D I ?_⟩
  exact ⟨_, q, fun xs H1 k => k.mko⟩
end Dz
namespace Dz
open PySem L2
section
variable {P : Program} {w : World} {K : PySem.W.Frag} {mg : Str → Option Value} {base : Heap} {N : List Str} {qual : Str} {scope : Scope} {f : Addr} {cd : Value} {A : Around} {outer : List Env} {s : Shared} {H : Hp} {E : XK}
theorem tk0 : Takes (cxOf (L2.CX P w) P w K mg base N qual scope f cd A outer s H E) (fun cls d _ H => E cls d H) := takes_of rfl rfl rfl rfl
theorem pk0 : Passes (L2.CX P w) (cxOf (L2.CX P w) P w K mg base N qual scope f cd A outer s H E) E := passes_call tk0 fun _ _ _ _ h => h
theorem pa0 : PassAny (cxOf (L2.CX P w) P w K mg base N qual scope f cd A outer s H E) E := passAny_of rfl rfl rfl rfl
end
/-! ### texts: partition, split, startswith, endswith -/
def rPart : V → List V → Hp → VK → Prop := fun x xs H Q => ∃ a b : Str, x = .str a ∧ xs = [.str b] ∧ (b.length == 0) = false ∧ a.length ≤ sizeLine ∧ ∀ p, H p = none → Q (.ref p) (upd H p (.tup [.str (Txt.partition a b).1, .str (Txt.partition a b).2.1, .str (Txt.partition a b).2.2]))
def rSplit : V → List V → Hp → VK → Prop := fun x xs H Q => ∃ a b : Str, x = .str a ∧ xs = [.str b] ∧ (b.length == 0) = false ∧ a.length + 2 ≤ sizeLine ∧ ∀ p, H p = none → Q (.ref p) (upd H p (.lst ((Txt.split a b).map V.str)))
def rStarts : V → List V → Hp → VK → Prop := fun x xs H Q => ∃ a b : Str, x = .str a ∧ xs = [.str b] ∧ Q (.bl (Txt.startswith a b)) H
def rEnds : V → List V → Hp → VK → Prop := fun x xs H Q => ∃ a b : Str, x = .str a ∧ xs = [.str b] ∧ Q (.bl (Txt.endswith a b)) H
section
variable {X : Cx}
theorem m_part : MtR X "str.partition" rPart := mt_partition
theorem m_split : MtR X "str.split" rSplit := mt_split
theorem m_starts : MtR X "str.startswith" rStarts := mt_startswith
theorem m_ends : MtR X "str.endswith" rEnds := mt_endswith
end
section
variable {H I : Hp} {M : List (Addr × HO)} {Z : List (Addr × HO) → Prop} {Q : VK} {a b : Str}
theorem x_starts (k : Q (.bl (Txt.startswith a b)) H) : rStarts (.str a) [.str b] H Q := ⟨a, b, rfl, rfl, k⟩
theorem x_ends (k : Q (.bl (Txt.endswith a b)) H) : rEnds (.str a) [.str b] H Q := ⟨a, b, rfl, rfl, k⟩
theorem x_partI (S : Own H I M Z) (hb : (b.length == 0) = false) (ha : a.length ≤ sizeLine) (k : ∀ p I1 H1, Same I I1 → I1 p = some (.tup [.str (Txt.partition a b).1, .str (Txt.partition a b).2.1, .str (Txt.partition a b).2.2]) → Own H1 I1 M Z → Q (.ref p) H1) : rPart (.str a) [.str b] H Q := by
  exact ⟨a, b, rfl, rfl, hb, ha, fun p hp => S.new hp fun I1 e h S1 => k p I1 _ e h S1⟩
theorem x_splitI (S : Own H I M Z) (hb : (b.length == 0) = false) (ha : a.length + 2 ≤ sizeLine) (k : ∀ p I1 H1, Same I I1 → I1 p = some (.lst ((Txt.split a b).map V.str)) → Own H1 I1 M Z → Q (.ref p) H1) : rSplit (.str a) [.str b] H Q := by
  exact ⟨a, b, rfl, rfl, hb, ha, fun p hp => S.new hp fun I1 e h S1 => k p I1 _ e h S1⟩
/-- an error is made in a split heap -/
theorem x_mkI {C : Addr} {ns : List Str} {QX : XK} {xs : List V} (S : Own H I M Z) (hl : xs.length = ns.length) (hz : xs.length ≤ 1000) (k : ∀ d I1 H1, Same I I1 → I1 d = some (.xd (ns.zip xs)) → Own H1 I1 M Z → QX (.ref C) (some d) H1) : MkK C ns QX xs H := by
  exact ⟨hl, hz, fun d hd => S.new hd fun I1 e h S1 => k d I1 _ e h S1⟩
end
end Dz
namespace Dz
open PySem L2
/-- a value or None -/
instance encOpt {α : Type} [Enc α] : Enc (Option α) := ⟨fun o => match o with | none => .none | some x => Enc.enc x, Enc.deep α, fun o => match o with | none => true | some x => Enc.ok x,
  fun o h => by cases o with | none => rfl | some x => exact Enc.lay x h, fun o => by cases o with | none => exact Nat.zero_le _ | some x => exact Enc.dep x⟩
section
variable {K : PySem.W.Frag} {I : Hp} {α : Type} [Enc α] {v : V} {x : α}
theorem Rp.some (h : Rp K I v x) : Rp K I v (Option.some x) := h
theorem Rp.none : Rp K I .non (Option.none : Option α) := Dt.non
theorem Rp.unsome (h : Rp K I v (Option.some x)) : Rp K I v x := h
theorem Rp.unnone (h : Rp K I v (Option.none : Option α)) : v = .non := by
  have h : Dt K I v .none := h
  cases h
  rfl
end
end Dz
namespace Dz
open PySem PySem.Spec PyProof.Rows L2
/-- name = [..], its element may raise -/
theorem ps_setLcx {X : Cx} {E : XK} {i : Nat} {y : Str} {py pos spos : Pos} {elt tg iter : Expr} {ifs : List Expr} {scope : Scope} {own : List (Str × Nat)} {wi : TI} {g : TG} {tt : TT} {te : TE} (hc : X.calm = true) (hN : X.N.Nodup)
    (hstk : X.stack = X.env :: X.outer) (hf : X.env.frame = some X.env.locals) (hx : PassAny X E) (hy : X.N[i]? = some y) (hyl : X.env.scope.names.lookup y = some .local)
    (hsw : swapsWith (.ListComp elt [⟨tg, iter, ifs, 0⟩] scope pos) (some (.Name y py)) spos.line X.env = pure true) (hi : PI X tg iter wi) (ok : BlkOk X.N X.env.scope scope own)
    (hg : ∀ s H C cl fp, PG (X.blk s H scope (compEnvC scope cl C X.env) fp) tg g) (ht : ∀ s H C cl fp, PTs (X.blk s H scope (compEnvC scope cl C X.env) fp) ifs tt)
    (he : ∀ s H C cl fp xe, Passes (CX X.prog X.w) (bx X s H scope cl C fp xe) E → PE (bx X s H scope cl C fp xe) elt te) (hs : ∀ x, foldedSetIterable iter X.env x = pure x := by intro _; rfl) :
    PS X (.Assign [.Name y py] (.ListComp elt [⟨tg, iter, ifs, 0⟩] scope pos) spos) (tAsg (tLc wi g tt te (own.map (·.2))) (gName i)) := by
  refine ⟨fun pins s σ H D I h => ?_⟩
  rw [exec_Assign_Name_used _ _ _ _ hsw]
  have h : tLc wi g tt te (own.map (·.2)) σ H (fun v H1 => gName i v σ H1 D.nx) := h
  refine wpAny_bind (wpAny_standAt (wpAny_bind (wpAny_bind (thn (lcx (Qf := fun _ q => SP X pins D .next q) hc hN hstk hf hx I hi ok hg ht he hs h fun L C q m K1 J1 f1 hn fp => ?_) fun _ _ z => wpAny_pure (wpAny_pure z)))))
  obtain ⟨z0, z1, z2, z3, z4, z5⟩ := fp
  show wpAny _ _ (assign (.Name y py) X.env (.ref L)) _ _ _
  refine wpAny_assign_Name (store_ok2 (v := V.ref L) J1 hN hy (.inl hyl) rfl (fun q2 J2 ⟨b, same, hb⟩ => ?_) (.inr hyl))
  have nb : C ≠ b := hb.elim (fun z => z ▸ z1) fun z => fun e => z4 y b z e.symm
  refine ⟨m, hn.sameBut same nb, fun h3 same3 => ?_⟩
  have J3 := J2.turned (h' := h3) (t' := q2.toks) (fun c o hc e => (same3.2 c hc).trans e) z0 z1 z3 z4 z5
  exact ⟨_, K1, J3, f1⟩
end Dz
namespace Dz
open PySem L2
/-! ### truth tests -/
def tTru (K : PySem.W.Frag) (ta : TE) : TT := fun σ H QB => ta σ H fun x H1 => ∃ c, TruV K x H1 c ∧ QB c H1
theorem pt_truK {X : Cx} {K : PySem.W.Frag} {e : Expr} {ta : TE} (ha : PE X e ta) (he : ∀ whole, isTrue e X.env whole = (do let v ← whole; standAt e.pos; holding [v] (truthy v)) := by intro _; rfl) (hK : X.K = K := by rfl) : PT X e (tTru K ta) := hK ▸ pt_truth ha he
section
variable {σ : L2.St} {H : Hp} {QB : Bool → Hp → Prop} {ta : TE} {K : PySem.W.Frag} {p : Addr} {xs : List V}
theorem x_tru (k : ta σ H fun x H1 => ∃ c, TruV K x H1 c ∧ QB c H1) : tTru K ta σ H QB := k
theorem x_truL (h : SqL K H p xs) (k : QB (!xs.isEmpty) H) : ∃ c, TruV K (.ref p) H c ∧ QB c H := ⟨_, .inl ⟨xs, h, rfl⟩, k⟩
theorem x_truS {z : Str} (h : z.length ≤ sizeLine) (k : QB ((z.length : Int) != 0) H) : ∃ c, TruV K (.str z) H c ∧ QB c H := ⟨_, ⟨h, rfl⟩, k⟩
end
end Dz
namespace Dz
open PySem L2
/-! ### an error that keeps a copy of the list that it is given -/
def spInitL (K : PySem.W.Frag) (C : Addr) (nm : Str) : L2.Sp := fun vs H Q _ => ∃ (a p : Addr) (ys : List V), vs = [.ref a, .ref p] ∧ H a = some (exo a C none) ∧ SqL K H p ys ∧
  ∀ q d, q ≠ a → d ≠ a → d ≠ q → H q = none → H d = none → Q .non (upd (upd (upd H q (.lst ys)) a (exo a C (some d))) d (exd d [(nm, .ref q)]))
structure ErL (P : Program) (w : World) (K : PySem.W.Frag) (mg : Str → Option Value) (base : Heap) (x : Str) (C : Addr) (nm : Str) : Prop where
  T : OexC K C
  ex : ∃ (fI : Addr) (fd : FuncData), PySem.W.findIn K (.ref C) "__init__" = some (some (.ref fI)) ∧ PySem.W.typeIn K (.ref fI) = some (.type "function") ∧ FnOk P w K mg base CX0 1 fI fd ["self", nm] (spInitL K C nm) ∧ Binds K fd ["self", nm] []
  m : mg x = some (.ref C)
def MkKL (K : PySem.W.Frag) (C : Addr) (nm : Str) (QX : XK) (xs : List V) (H : Hp) : Prop := ∃ (p : Addr) (ys : List V), xs = [.ref p] ∧ SqL K H p ys ∧
  ∀ q d, d ≠ q → H q = none → H d = none → QX (.ref C) (some d) (upd (upd H q (.lst ys)) d (.xd [(nm, .ref q)]))
theorem MkKL.mko {K : PySem.W.Frag} {C : Addr} {nm : Str} {QX : XK} {xs : List V} {H : Hp} (k : MkKL K C nm QX xs H) : xs.length ≤ 1000 ∧ ∀ a, H a = none → spInitL K C nm (.ref a :: (xs ++ [])) (upd H a (exo a C none))
    (fun v H2 => v = .non ∧ ∃ (d : Addr) (fs : List (Str × V)), H2 a = some (exo a C (some d)) ∧ H2 d = some (exd d fs) ∧ H d = none ∧ QX (.ref C) (some d) (upd (del H2 a) d (.xd fs))) (fun _ _ _ => False) := by
  obtain ⟨p, ys, rfl, hs, k⟩ := k
  refine ⟨show 1 ≤ 1000 by decide, fun a ha => ⟨a, p, ys, rfl, upd_same, (show Same H (upd H a (exo a C none)) from fun b o e => by rw [upd_ne (fun z => by rw [z, ha] at e; cases e)]; exact e).seq hs, fun q d hqa hda hdq hq hd => ⟨rfl, d, _, ?_, upd_same, ?_, ?_⟩⟩⟩
  · rw [upd_ne (Ne.symm hda), upd_same]
  · rwa [upd_ne hda] at hd
  · have hq0 : H q = none := by rwa [upd_ne hqa] at hq
    have hd0 : H d = none := by rwa [upd_ne hda] at hd
    have e : upd (del (upd (upd (upd (upd H a (exo a C none)) q (.lst ys)) a (exo a C (some d))) d (exd d [(nm, V.ref q)])) a) d (.xd [(nm, V.ref q)]) = upd (upd H q (.lst ys)) d (.xd [(nm, V.ref q)]) := by
      funext b
      by_cases hb : b = d
      · rw [hb, upd_same, upd_same]
      · rw [upd_ne hb, upd_ne hb]
        by_cases hb2 : b = a
        · rw [hb2, del_same, upd_ne (Ne.symm hqa), ha]
        · rw [del_ne hb2, upd_ne hb, upd_ne hb2]
          by_cases hb3 : b = q
          · rw [hb3, upd_same, upd_same]
          · rw [upd_ne hb3, upd_ne hb2, upd_ne hb3]
    rw [e]
    exact k q d hdq hq0 hd0
def tRsL (K : PySem.W.Frag) (C : Addr) (nm : Str) (tr : TA) (W : WX) : TS := fun _ σ H => tr σ H (MkKL K C nm fun cls d H' => W cls d σ H')
theorem x_rsL {σ : L2.St} {H : Hp} {K : PySem.W.Frag} {C : Addr} {nm : Str} {tr : TA} {W : WX} {D : Ends} (k : tr σ H (MkKL K C nm fun cls d H' => W cls d σ H')) : tRsL K C nm tr W D σ H := k
theorem ps_erL {X : Cx} {K : PySem.W.Frag} {W : WX} {x : Str} {C : Addr} {nm : Str} {p pos pos' : Pos} {e : Expr} {es : List Expr} {tr : TA} (B : ErL X.prog X.w K X.mg X.base x C nm) (hc : X.calm = true) (tk : Takes X W) (hr : Room 2 X.A) (hg : Gl X x) (ha : PA X (e :: es) tr)
    (hdb : (x == ("__debug__" : Str)) = false := by decide) (he : starEach (e :: es) X.env = (false, eval e X.env) :: starEach es X.env := by rfl) (hpl : (backTo pos (starEach es X.env)).any (·.1) = false := by rfl) (hK : X.K = K := by rfl) :
    PS X (.Raise (some (.Call (.Name x p) (e :: es) [] pos)) none pos') (tRsL K C nm tr W) := by
  subst hK
  obtain ⟨fI, fd, i1, i2, F, b⟩ := B.ex
  have z := ps_raise (pos := pos') hc tk (pmk_oex (p := p) (pos := pos) B.T i1 i2 F hr b .nil pass0 hg B.m (pa_mono ha) hdb he hpl)
  refine ⟨fun pins s σ H D I q => z.run pins s σ H D I ?_⟩
  exact ⟨_, q, fun xs H1 k => k.mko⟩
theorem x_mkLF {H I : Hp} {M : List (Addr × HO)} {Z : List (Addr × HO) → Prop} {K : PySem.W.Frag} {C p : Addr} {nm : Str} {QX : XK} {ys : List V} (S : Own H I M Z) (h : SqL K H p ys)
    (k : ∀ q d I1 H1, I q = none → Same I I1 → I1 q = some (.lst ys) → I1 d = some (.xd [(nm, .ref q)]) → Own H1 I1 M Z → QX (.ref C) (some d) H1) : MkKL K C nm QX [.ref p] H := by
  refine ⟨p, ys, rfl, h, fun q d hdq hq hd => ?_⟩
  have fq : I q = none := S.imm.free hq
  obtain ⟨I1, e1, h1, S1⟩ := S.alloc (o := .lst ys) hq
  obtain ⟨I2, e2, h2, S2⟩ := S1.alloc (o := .xd [(nm, V.ref q)]) (p := d) (by rw [upd_ne hdq]; exact hd)
  exact k q d I2 _ fq (e1.trans e2) (e2 _ _ h1) h2 S2
theorem x_mkLI {H I : Hp} {M : List (Addr × HO)} {Z : List (Addr × HO) → Prop} {K : PySem.W.Frag} {C p : Addr} {nm : Str} {QX : XK} {ys : List V} (S : Own H I M Z) (h : SqL K H p ys)
    (k : ∀ q d I1 H1, Same I I1 → I1 q = some (.lst ys) → I1 d = some (.xd [(nm, .ref q)]) → Own H1 I1 M Z → QX (.ref C) (some d) H1) : MkKL K C nm QX [.ref p] H := by
  refine ⟨p, ys, rfl, h, fun q d hdq hq hd => ?_⟩
  obtain ⟨I1, e1, h1, S1⟩ := S.alloc (o := .lst ys) hq
  obtain ⟨I2, e2, h2, S2⟩ := S1.alloc (o := .xd [(nm, V.ref q)]) (p := d) (by rw [upd_ne hdq]; exact hd)
  exact k q d I2 _ (e1.trans e2) (e2 _ _ h1) h2 S2
end Dz
namespace Dz
open PySem L2
section
variable {P : Program} {w : World} {K : PySem.W.Frag} {mg : Str → Option Value} {base : Heap} {N : List Str} {qual : Str} {scope : Scope} {f : Addr} {cd : Value} {A : Around} {outer : List Env} {s : Shared} {H : Hp} {E : XK}
theorem po0 : PassesOwn (model P w) (cxOf (L2.CX P w) P w K mg base N qual scope f cd A outer s H E).A (cxOf (L2.CX P w) P w K mg base N qual scope f cd A outer s H E).env (cxOf (L2.CX P w) P w K mg base N qual scope f cd A outer s H E).xe := passes_of rfl
end
end Dz

/-! Objects of the program: own == and != with any truth value as the answer, own len and str. -/
namespace Dz
open PySem L2 PySem.Spec PyProof.Rows
section
variable {prog : Program} {w : World} {A : Around} {E : Value → Shared → Prop} {s : Shared} {K : PySem.W.Frag} {x C f : Addr} {ox : Obj} {od : Option Obj}
open PySem.W
theorem ifBound_blt {M : Model} {name : Str} {id : String} {args : List Value} {Q : Option Value → Shared → Prop} (X : K.In s.heap) (I : InstAt s.heap x ox C od) (hs : findIn K (.ref C) name = some (some (.builtin id)))
    (hb : ∀ self, bindSpecial (.builtin id) self = pure (.builtin id, [self])) (h : wpAny M A (call (.builtin id) (.ref x :: args)) (fun v => Q (some v)) E s) : wpAny M A (callSpecialIfBound? (.ref x) name args) Q E s := by
  simp only [callSpecialIfBound?, bindSpecialIfBound?]
  refine wpAny_holding (wpAny_bind (wpAny_bind (wpAny_bind (I.type.here ((looks_findIn X hs).here ?_)))))
  simp only [hb]
  refine wpAny_bind (wpAny_askSetting (wpAny_ite ?_))
  have fin : wpAny M A (call (.builtin id) ([.ref x] ++ args) >>= fun v => pure (some v)) Q E s := wpAny_bind (wpAny_mono h (fun v s' h' => wpAny_pure h') fun _ _ h' => h')
  split
  · exact wpAny_bind (wpAny_pure (wpAny_pure (by exact fin)))
  · exact wpAny_tryCatch (wpAny_bind (wpAny_pure (wpAny_pure (by exact fin))))
/-- object.__ne__ over an own __eq__ -/
theorem objNe_own {y : Value} {Q : Fin → Shared → Prop} (hu : A.units < cLine) (X : K.In s.heap) (I : InstAt s.heap x ox C od) (hs : findIn K (.ref C) "__eq__" = some (some (.ref f))) (hf : isFn K (.ref f) = true)
    (h : wpAny (model prog w) A (call (.ref f) [.ref x, y]) (fun v s' => ∃ b, v = .bool b ∧ Q (.done (.ret (.bool (!b)))) s') E s) :
    wpAny (model prog w) A (Builtin.«object.__ne__» ⟨[.ref x, y], []⟩) Q E s := by
  unfold Builtin.«object.__ne__»
  repeat (first
    | with_reducible refine wpAny_cRoomFor hu ?_
    | (refine wpAny_bind (m := callSpecialIfBound? (.ref x) (Str.ofString "__eq__") [y])
        (ifBound_K X I hs hf (wpAny_mono h (fun r s' hr => by
          obtain ⟨b, rfl, hq⟩ := hr
          repeat (first | exact hq | exact wpAny_pure hq | exact wpAny_truthy_bool hq | (refine wpAny_bind (m := truthy (.bool _)) (wpAny_truthy_bool ?_)) | wp_step)) fun _ _ e => e)))
    | wp_step)
theorem cmp_ne {Q : Value → Shared → Prop} {y tb : Value} {h₀ : Heap} {L : Addr} {m : Str → Option Value} (hu : A.units + 1 < cLine) (F : Fr h₀ L s.heap m) (X₀ : K.In h₀) (I : InstAt s.heap x ox C od) (hb : Looks (model prog w) s.heap (typeOf y) tb) (hn : notFirst K C tb = true)
    (hm : mroIn K C (.type "object") = some true) (he : findIn K (.ref C) "__ne__" = some (some (.builtin "object.__ne__")))
    (hs : findIn K (.ref C) "__eq__" = some (some (.ref f))) (hf : isFn K (.ref f) = true)
    (h : wpAny (model prog w) A.in1 (call (.ref f) [.ref x, y]) (fun v s' => ∃ b, v = .bool b ∧ Q (.bool (!b)) s') E s) : wpAny (model prog w) A (richCompare .NotEq (.ref x) y) Q E s := by
  have X := X₀.keeps F.keep
  have one : wpAny (model prog w) A (tryCompare (.ref x) "__ne__" y) (fun r s' => ∃ v, r = some v ∧ Q v s') E s := by
    unfold tryCompare
    refine wpAny_bind (ifBound_blt X I he PySem.F.cmp_object.ne.bind (wpAny_call (codeAny_call_builtin PySem.F.cmp_object.ne.plain PySem.F.cmpEntry_ne
      (check_slot PySem.F.cmpKind_ne PySem.F.cmpSplit_ne (I.type.andThen (looks_mroIn X hm)) (PySem.F.cmpArgs_ne _ _) (objNe_own (A := A.in1) hu X I hs hf (wpAny_mono h (fun v s' hv => ?_) fun _ _ e => e))))))
    obtain ⟨b, rfl, hq⟩ := hv
    first | exact ⟨b, rfl, wpAny_pure ⟨_, rfl, hq⟩⟩ | exact ⟨b, rfl, wpAny_pure (wpAny_pure ⟨_, rfl, hq⟩)⟩ | exact ⟨b, rfl, ⟨_, rfl, hq⟩⟩
  unfold richCompare
  simp only [oneThing_ref]
  refine wpAny_holding (wpAny_bind (wpAny_cRoomFor (Nat.lt_of_succ_lt hu) ?_))
  rw [cmpInfo_NotEq]
  dsimp only
  refine wpAny_bind (I.type.here (wpAny_bind (hb.here ?_)))
  split
  · rename_i q
    have e : subIn K tb (.ref C) = some false := by
      rcases Bool.or_eq_true_iff.mp hn with e | e
      · rw [beq_iff_eq.mp e] at q; simp at q
      · exact beq_iff_eq.mp e
    refine wpAny_bind ((looks_subIn X e).here ?_)
    simp only [Bool.false_eq_true, if_false]
    refine wpAny_bind (wpAny_mono one (fun r s' z => ?_) fun _ _ e => e)
    obtain ⟨v, rfl, hq⟩ := z
    exact wpAny_pure hq
  · refine wpAny_bind (wpAny_pure ?_)
    simp only [Bool.false_eq_true, if_false]
    refine wpAny_bind (wpAny_mono one (fun r s' z => ?_) fun _ _ e => e)
    obtain ⟨v, rfl, hq⟩ := z
    exact wpAny_pure hq
/-- len(x), own -/
theorem len_own {Q : Value → Shared → Prop} (X : K.In s.heap) (I : InstAt s.heap x ox C od) (hs : findIn K (.ref C) "__len__" = some (some (.ref f))) (hf : isFn K (.ref f) = true)
    (h : wpAny (model prog w) A.in1 (call (.ref f) [.ref x]) (fun v s' => ∃ (i : Int) (t : Tok), v = .int i t ∧ 0 ≤ i ∧ i < 2 ^ 63 ∧ Q (.int i s'.toks) { s' with toks := s'.toks + 1 }) E s) : wpAny (model prog w) A (call (.builtin "len") [.ref x]) Q E s := by
  refine Calls.call_function_entry PySem.kind_len PySem.plain_len PySem.entry_len (PySem.args_len1 _) ?_
  unfold Builtin.«len»
  refine wpAny_bind (m := oneArg "len" _) (wpAny_pure ?_)
  refine wpAny_bind (m := callSpecial? (.ref x) (PySem.Str.ofString "__len__")) (special_fn X I hs (beq_iff_eq.mp hf) (wpAny_mono h (fun r s' hr => ?_) fun _ _ y => y))
  obtain ⟨i, t, rfl, h0, h1, hq⟩ := hr
  refine wpAny_bind (wpAny_holding (wpAny_pure ?_))
  refine wpAny_bind (wpAny_letGo ?_)
  show wpAny _ _ (if (i : Int) < 0 then _ else _) _ _ _
  rw [if_neg (by omega)]
  show wpAny _ _ (if (i : Int) ≥ 2 ^ 63 then _ else _) _ _ _
  rw [if_neg (by omega)]
  exact wpAny_bind (wpAny_mkInt (wpAny_pure ⟨_, rfl, hq⟩))
end
/-! ### the rules -/
/-- the facts of a class with its own == -/
structure Oeq (K : PySem.W.Frag) (C f : Addr) : Prop where
  eq : PySem.W.findIn K (.ref C) "__eq__" = some (some (.ref f))
  ne : PySem.W.findIn K (.ref C) "__ne__" = some (some (.builtin "object.__ne__"))
  fn : PySem.W.isFn K (.ref f) = true
  ob : PySem.W.mroIn K C (.type "object") = some true
def rOwnEq (K : PySem.W.Frag) (C : Addr) (sp : L2.Sp) (E : XK) : R2 := fun x y H Q => ∃ a dx fs t, x = .ref a ∧ H a = some (.ins C dx fs) ∧ TyX K H y t ∧ PySem.W.notFirst K C t = true ∧ sp [x, y] H (fun v H' => ∃ b, v = .bl b ∧ Q (.bl b) H') E
def rOwnNe (K : PySem.W.Frag) (C : Addr) (sp : L2.Sp) (E : XK) : R2 := fun x y H Q => ∃ a dx fs t, x = .ref a ∧ H a = some (.ins C dx fs) ∧ TyX K H y t ∧ PySem.W.notFirst K C t = true ∧ sp [x, y] H (fun v H' => ∃ b, v = .bl b ∧ Q (.bl (!b)) H') E
def cLenO (C : Addr) (sp : L2.Sp) (E : XK) : List V → Hp → VK → Prop := fun xs H Q => ∃ a dx fs, xs = [.ref a] ∧ H a = some (.ins C dx fs) ∧ sp [.ref a] H (fun v H' => ∃ i : Int, v = .int i ∧ 0 ≤ i ∧ i < 2 ^ 63 ∧ Q (.int i) H') E
def cStrO (C : Addr) (sp : L2.Sp) (E : XK) : List V → Hp → VK → Prop := fun xs H Q => ∃ a dx fs, xs = [.ref a] ∧ H a = some (.ins C dx fs) ∧ sp [.ref a] H (fun v H' => ∃ z : Str, v = .str z ∧ Q (.str z) H') E
def cStrI : List V → Hp → VK → Prop := fun xs H Q => ∃ i : Int, xs = [V.int i] ∧ i.natAbs.log2 < 1920 ∧ Q (.str (Str.ofString (toString i))) H
theorem c_strI {X : Cx} : CallR X (.type "str") cStrI := call_str_int
section
variable {X : Cx} {CX : CXT} {n : Nat} {C f : Addr} {fd : FuncData} {ps : List Str} {sp : L2.Sp} {E : XK}
theorem run_fnA {A : Around} {pins : List (Addr × Obj)} {σ : L2.St} {H : Hp} {s : Shared} {Q : VK} {us : List Value} {vs : List V} (sb : Sub X n A) (F : FnOk X.prog X.w X.K X.mg X.base CX n f fd ps sp) (hb : Binds X.K fd ps []) (hx : Passes CX X E)
    (I : Inv X pins σ H s) (r : Vals vs us) (h : sp vs H Q E) : wpAny (model X.prog X.w) A (call (.ref f) us) (EP X pins σ Q) X.xe s := by
  have e0 : Env0 X.prog X.w X.K X.mg X.base A X.stack s H := by
    have e := I.env0
    exact ⟨by rw [sb.fr]; exact e.frames, e.mod, e.bs, e.bsz, e.funs, e.frf, e.hok, e.bare⟩
  have hl := F.len _ _ _ _ h
  refine wpAny_call (codeAny_mono (F.run A X.stack s H ⟨us, []⟩ us vs Q E sb.room e0 (by
    have := hb s us I.kIn (by simpa [r.length] using hl)
    simpa using this) r h) fun r s' hq => ?_)
  cases r with
  | error e => exact hx pins σ H s e s' I hq
  | ok fl =>
    cases fl with
    | ret w => exact I.after hq
    | next => exact False.elim hq
    | brk => exact False.elim hq
    | cont => exact False.elim hq
theorem op_eqO {K : PySem.W.Frag} (F : FnOk X.prog X.w X.K X.mg X.base CX n f fd ps sp) (hr : Room n X.A) (O : Oeq X.K C f) (hb : Binds X.K fd ps []) (hx : Passes CX X E) (hK : X.K = K := by rfl) : OpR X (compareOp .Eq) (rOwnEq K C sp E) := by
  subst hK
  intro pins s σ H x y v u Q I rx ry hq
  obtain ⟨a, dx, fs, t, rfl, ha, ty, hn, h⟩ := hq
  cases rx
  obtain ⟨mA, J, _⟩ := ins_get I.hok ha
  obtain ⟨od, J, _⟩ := J.look
  obtain ⟨m, hF⟩ := I.fr
  obtain ⟨P, kx, p, _⟩ := kit_of I ry ty
  show wpAny (model X.prog X.w) X.A (richCompare .Eq (.ref a) u) (EP X pins σ Q) X.xe s
  refine PySem.W.cmp_K (op := .Eq) (tb := t) hr.units0 hF I.ok.mod.kin J (kx.ty _ _ I.kIn p) hn O.eq O.fn ?_
  refine wpAny_mono (run_fn F hr hb .nil hx I (.cons (show L2.RelV (.ref a) (.ref a) from rfl) (.cons ry .nil)) h) (fun r s' z => ?_) fun _ _ x => x
  obtain ⟨z, H', I', rz, b, ez, q⟩ := z
  subst ez
  cases rz
  exact ⟨.bl b, H', I', rfl, q⟩
theorem op_neO {K : PySem.W.Frag} (F : FnOk X.prog X.w X.K X.mg X.base CX n f fd ps sp) (hr : Room (n + 1) X.A) (O : Oeq X.K C f) (hb : Binds X.K fd ps []) (hx : Passes CX X E) (hK : X.K = K := by rfl) : OpR X (compareOp .NotEq) (rOwnNe K C sp E) := by
  subst hK
  intro pins s σ H x y v u Q I rx ry hq
  obtain ⟨a, dx, fs, t, rfl, ha, ty, hn, h⟩ := hq
  cases rx
  obtain ⟨mA, J, _⟩ := ins_get I.hok ha
  obtain ⟨od, J, _⟩ := J.look
  obtain ⟨m, hF⟩ := I.fr
  obtain ⟨P, kx, p, _⟩ := kit_of I ry ty
  have sb : Sub X (n + 1) X.A := ⟨hr, rfl⟩
  show wpAny (model X.prog X.w) X.A (richCompare .NotEq (.ref a) u) (EP X pins σ Q) X.xe s
  refine cmp_ne (show X.A.in1.units < cLine from sb.in1.room.units0) hF I.ok.mod.kin J (kx.ty _ _ I.kIn p) hn O.ob O.ne O.eq O.fn ?_
  refine wpAny_mono (run_fnA sb.in1 F hb hx I (.cons (show L2.RelV (.ref a) (.ref a) from rfl) (.cons ry .nil)) h) (fun r s' z => ?_) fun _ _ x => x
  obtain ⟨z, H', I', rz, b, ez, q⟩ := z
  subst ez
  cases rz
  exact ⟨b, rfl, .bl (!b), H', I', rfl, q⟩
theorem c_lenO {K : PySem.W.Frag} (F : FnOk X.prog X.w X.K X.mg X.base CX n f fd ps sp) (hr : Room (n + 2) X.A) (O : Meth X.K C "__len__" f) (hb : Binds X.K fd ps []) (hx : Passes CX X E) (hK : X.K = K := by rfl) : CallR X (.builtin "len") (cLenO C sp E) := by
  subst hK
  intro pins s σ H xs us Q I r hq
  obtain ⟨a, dx, fs, rfl, ha, h⟩ := hq
  obtain ⟨u, rfl, rx⟩ := vals1 r
  cases rx
  obtain ⟨mA, J, _⟩ := ins_get I.hok ha
  obtain ⟨od, J, _⟩ := J.look
  have sb : Sub X (n + 2) X.A := ⟨hr, rfl⟩
  refine len_own I.kIn J O.at_ O.fn ?_
  refine wpAny_mono (run_fnA (sb.in1.mono (by omega)) F hb hx I (.cons (show L2.RelV (.ref a) (.ref a) from rfl) .nil) h) (fun r s' z => ?_) fun _ _ x => x
  obtain ⟨z, H', I', rz, i, ez, h0, h1, q⟩ := z
  subst ez
  obtain ⟨t, rfl⟩ := rz
  exact ⟨i, t, rfl, h0, h1, .int i, H', I'.tok _, ⟨_, rfl⟩, q⟩
theorem c_strO {K : PySem.W.Frag} (F : FnOk X.prog X.w X.K X.mg X.base CX n f fd ps sp) (hr : Room (n + 2) X.A) (O : Meth X.K C "__str__" f) (hb : Binds X.K fd ps []) (hx : Passes CX X E) (hK : X.K = K := by rfl) : CallR X (.type "str") (cStrO C sp E) := by
  subst hK
  intro pins s σ H xs us Q I r hq
  obtain ⟨a, dx, fs, rfl, ha, h⟩ := hq
  obtain ⟨u, rfl, rx⟩ := vals1 r
  cases rx
  obtain ⟨mA, J, _⟩ := ins_get I.hok ha
  obtain ⟨od, J, _⟩ := J.look
  have sb : Sub X (n + 2) X.A := ⟨hr, rfl⟩
  refine PySem.W.kso_call sb.in1.in1.room.units0 I.kIn J O.at_ O.fn ?_
  refine wpAny_mono (run_fnA sb.in1.in1 F hb hx I (.cons (show L2.RelV (.ref a) (.ref a) from rfl) .nil) h) (fun r s' z => ?_) fun _ _ x => x
  obtain ⟨z, H', I', rz, i, ez, q⟩ := z
  subst ez
  obtain ⟨t, rfl⟩ := rz
  exact ⟨.str i, H', I', ⟨_, rfl⟩, q⟩
theorem c_isiK {K : PySem.W.Frag} (hK : X.K = K := by rfl) : CallR X (.builtin "isinstance") (rIsi K) := hK ▸ call_isi
def gSeq (K : PySem.W.Frag) (m : Nat) (t : TGs) : TG := fun v σ H R => gTup K m t v σ H R ∨ gUnl K m t v σ H R
/-- a target of several names over a tuple or a list -/
theorem pg_seqK {K : PySem.W.Frag} {es : List Expr} {k : Nat} {t : TGs} {m : Nat} {pos : Pos} (hc : X.calm = true) (h : PGs X es t) (hn : (assignEach es X.env).length = m := by rfl) (hst : (assignEach es X.env).findIdx? (·.1) = none := by rfl) (hK : X.K = K := by rfl) :
    PG X (.Tuple es k pos) (gSeq K m t) := by
  subst hK
  refine ⟨fun pins s σ H v u Q I r hw => ?_⟩
  rcases hw with hw | hw
  · exact (pg_tup hc h hn hst).run pins s σ H v u Q I r hw
  · exact (pg_unl hc h hn hst).run pins s σ H v u Q I r hw
end
/-! ### steps -/
section
variable {σ : L2.St} {H I I' : Hp} {M : List (Addr × HO)} {Z : List (Addr × HO) → Prop} {K : PySem.W.Frag} {Q : VK}
theorem x_fld {te : TE} {f : Str} (k : te σ H fun x H1 => ∃ a C dx fs v, x = .ref a ∧ H1 a = some (.ins C dx fs) ∧ Cls K C ∧ NoAttr K C f ∧ fs.lookup f = some v ∧ Q v H1) : tFld K te f σ H Q := k
theorem x_fldI {a C dx : Addr} {fs : List (Str × V)} {f : Str} {v : V} {P : V → Prop} (h : H a = some (.ins C dx fs)) (c : Cls K C) (n : NoAttr K C f) (l : fs.lookup f = some v) (k : P v) :
    ∃ a' C dx fs v, V.ref a = .ref a' ∧ H a' = some (.ins C dx fs) ∧ Cls K C ∧ NoAttr K C f ∧ fs.lookup f = some v ∧ P v := ⟨a, C, dx, fs, v, rfl, h, c, n, l, k⟩
theorem x_sFld {ta tv : TE} {f : Str} {nx : L2.St → Hp → Prop} {rt : VK} {bk ct : L2.St → Hp → Prop} (k : tv σ H fun y H1 => ta σ H1 fun x H2 => ∃ a C dx fs, x = .ref a ∧ H2 a = some (.ins C dx fs) ∧ Cls K C ∧ NoAttr K C f ∧ fs.length < 1000 ∧
  nx σ (upd H2 a (.ins C dx (putF f y fs)))) : sFld K ta tv f ⟨nx, rt, bk, ct⟩ σ H := k
theorem x_sFldO {a C dx : Addr} {fs : List (Str × V)} {f : Str} {y : V} {G : Hp → Prop} (i : Nat) (S : Own H I M Z) (h : M[i]? = some (a, .ins C dx fs)) (c : Cls K C) (n : NoAttr K C f) (l : fs.length < 1000)
    (k : ∀ H', Own H' I (M.set i (a, .ins C dx (putF f y fs))) Z → G H') : ∃ a' C dx fs, V.ref a = .ref a' ∧ H a' = some (.ins C dx fs) ∧ Cls K C ∧ NoAttr K C f ∧ fs.length < 1000 ∧ G (upd H a' (.ins C dx (putF f y fs))) :=
  ⟨a, C, dx, fs, rfl, S.get h, c, n, l, k _ (S.set i h)⟩
theorem x_gSeqT {m : Nat} {gs : TGs} {R : L2.St → Hp → Prop} {a : Addr} {xs : List V} (h : SqT K H a xs) (hl : xs.length = m) (k : gs xs σ H R) : gSeq K m gs (.ref a) σ H R := .inl ⟨a, xs, rfl, h, hl, k⟩
theorem x_gSeqL {m : Nat} {gs : TGs} {R : L2.St → Hp → Prop} {a : Addr} {xs : List V} (h : SqL K H a xs) (hl : xs.length = m) (k : gs xs σ H R) : gSeq K m gs (.ref a) σ H R := .inr ⟨a, xs, rfl, h, hl, k⟩
theorem ty_tup {a : Addr} {xs : List V} (h : SqT K H a xs) : TyX K H (.ref a) (.type "tuple") := by
  rcases h with (h | ⟨ob, h⟩) | ⟨o, _, _, lk, c, _⟩
  · exact .base (.tup h)
  · exact .fTuple h
  · exact .kTuple lk c
theorem x_lenO {C : Addr} {sp : L2.Sp} {E : XK} {a dx : Addr} {fs : List (Str × V)} (h : H a = some (.ins C dx fs)) (k : sp [.ref a] H (fun v H' => ∃ i : Int, v = .int i ∧ 0 ≤ i ∧ i < 2 ^ 63 ∧ Q (.int i) H') E) : cLenO C sp E [.ref a] H Q := ⟨a, dx, fs, rfl, h, k⟩
theorem x_strO {C : Addr} {sp : L2.Sp} {E : XK} {a dx : Addr} {fs : List (Str × V)} (h : H a = some (.ins C dx fs)) (k : sp [.ref a] H (fun v H' => ∃ z : Str, v = .str z ∧ Q (.str z) H') E) : cStrO C sp E [.ref a] H Q := ⟨a, dx, fs, rfl, h, k⟩
theorem x_eqO {C : Addr} {sp : L2.Sp} {E : XK} {a dx : Addr} {fs : List (Str × V)} {y : V} {t : Value} (h : H a = some (.ins C dx fs)) (ty : TyX K H y t) (hn : PySem.W.notFirst K C t = true) (k : sp [.ref a, y] H (fun v H' => ∃ b, v = .bl b ∧ Q (.bl b) H') E) : rOwnEq K C sp E (.ref a) y H Q := ⟨a, dx, fs, t, rfl, h, ty, hn, k⟩
theorem x_neO {C : Addr} {sp : L2.Sp} {E : XK} {a dx : Addr} {fs : List (Str × V)} {y : V} {t : Value} (h : H a = some (.ins C dx fs)) (ty : TyX K H y t) (hn : PySem.W.notFirst K C t = true) (k : sp [.ref a, y] H (fun v H' => ∃ b, v = .bl b ∧ Q (.bl (!b)) H') E) : rOwnNe K C sp E (.ref a) y H Q := ⟨a, dx, fs, t, rfl, h, ty, hn, k⟩
theorem nf_ty {C : Addr} {n : String} (h : PySem.W.subIn K (.type n) (.ref C) = some false) : PySem.W.notFirst K C (.type n) = true := by
  unfold PySem.W.notFirst
  rw [h]
  simp
theorem nf_own {C : Addr} : PySem.W.notFirst K C (.ref C) = true := by
  unfold PySem.W.notFirst
  simp
theorem x_isi {x c : V} {t u : Value} {b : Bool} (hc : ClsV c u) (ty : TyX K H x t) (e : PySem.W.kitOne K t u = some b) (k : Q (.bl b) H) : rIsi K [x, c] H Q := ⟨x, c, t, u, b, rfl, hc, ty, e, k⟩
/-- a new instance: what its making asks -/
theorem x_make {C : Addr} {sp : L2.Sp} {E : XK} {dvs : List V} {tr : TA} (k : tr σ H fun vs H1 => ∀ x dx, H1 x = none → H1 dx = none → dx ≠ x → sp (.ref x :: (vs ++ dvs)) (upd (upd H1 dx (.own x)) x (.ins C dx [])) (fun v H2 => v = .non ∧ Q (.ref x) H2) E) : tMake C sp dvs E tr σ H Q := k
theorem x_makeN {C : Addr} {sp : L2.Sp} {E : XK} {n m : Nat} {gV : List V → List V → List V} {tr tk : TA} (k : tr σ H fun vs H1 => tk σ H1 fun zs H2 => vs.length = n ∧ zs.length = m ∧ ∀ x dx, H2 x = none → H2 dx = none → dx ≠ x → sp (gV (.ref x :: vs) zs) (upd (upd H2 dx (.own x)) x (.ins C dx [])) (fun v H3 => v = .non ∧ Q (.ref x) H3) E) : tMakeN C n m sp gV E tr tk σ H Q := k
theorem own_made {x dx C : Addr} {Gp : Prop} (S : Own H I M Z) (h1 : H x = none) (h2 : H dx = none) (h3 : dx ≠ x)
    (k : ∀ I', Same I I' → Own (upd (upd H dx (.own x)) x (.ins C dx [])) I' ((x, .ins C dx []) :: M) Z → Gp) : Gp :=
  S.new h2 fun I' e _ S' => k I' e (S'.newM (by rw [upd_ne (Ne.symm h3)]; exact h1))
theorem x_fmtI {i : Int} {P : Str → Prop} (h : i.natAbs.log2 < 1920) (k : P (Str.ofString (toString i))) : (∃ y : Str, V.int i = .str y ∧ y.length ≤ sizeLine ∧ P y) ∨ ∃ j : Int, V.int i = .int j ∧ j.natAbs.log2 < 1920 ∧ P (Str.ofString (toString j)) := .inr ⟨i, rfl, h, k⟩
theorem x_fmt {te : TE} (k : te σ H fun x H1 => (∃ y : Str, x = .str y ∧ y.length ≤ sizeLine ∧ Q (.str y) H1) ∨ ∃ i : Int, x = .int i ∧ i.natAbs.log2 < 1920 ∧ Q (.str (toString i)) H1) : tFmt te σ H Q := k
theorem x_js {t : TE} {ts : List TE} {acc : Str} {Qj : Str → Hp → Prop} (k : t σ H fun x H1 => ∃ y : Str, x = .str y ∧ (acc ++ y).length ≤ sizeLine ∧ tJs ts (acc ++ y) σ H1 Qj) : tJs (t :: ts) acc σ H Qj := k
theorem x_js0 {acc : Str} {Qj : Str → Hp → Prop} (k : Qj acc H) : tJs [] acc σ H Qj := k
theorem x_jsS {z acc : Str} {Pj : Str → Prop} (h : (acc ++ z).length ≤ sizeLine) (k : Pj z) : ∃ y : Str, V.str z = .str y ∧ (acc ++ y).length ≤ sizeLine ∧ Pj y := ⟨z, rfl, h, k⟩
theorem empty_app (z : Str) : Str.empty ++ z = z := sg_inj (by rw [sg_app]; rfl)
theorem x_strI {i : Int} (h : i.natAbs.log2 < 1920) (k : Q (.str (Str.ofString (toString i))) H) : cStrI [.int i] H Q := ⟨i, rfl, h, k⟩
end
end Dz

/-! An error of the program whose __init__ says super().__init__(..): its promise. -/
namespace Dz
open PySem L2 PySem.Spec PyProof.Rows NdefX
/-! ### super().__init__(..): the bound method, called -/
section
variable {prog : Program} {w : World} {A : Around} {E : Value → Shared → Prop} {h : Heap} {g : Array GenState} {d : Drawn} {t : Nat} {os : OsState}
variable {nm q : Str} {C N : Addr} {bs bm : List Value} {hdct : Bool} {sn : List Str} {sub : List Value} {ab : Bool} {col : Option Bool} {dd : Option Addr} {k0 k1 k2 k3 k5 : Option Value}
theorem vcall {u e t0 : Addr} {rest : List Value} {Q : Value → Shared → Prop} (hC : h.get? C = some (excClassObj nm q C N bs bm hdct sn sub ab col dd k0 k1 k2 k3 k5 "ValueError.__new__")) (he : h.get? e = some (HandSPX.excO C t0)) (hu : h.get? u = some (W.kxs_mw "ValueError.__init__" e)) (hrest : rest.length ≤ sizeLine)
    (hq : ∀ h' t1, (∀ b o, b ≠ e → h.get? b = some o → h'.get? b = some o) → h'.get? e = some (HandSPX.excO C t1) → Q .none ⟨h', g, d, t, os⟩) :
    wpAny (model prog w) A (call (.ref u) rest) Q E ⟨h, g, d, t, os⟩ := by
  refine wpAny_call (codeAny_of_tree ?_)
  show wpAny _ A.in1 (callAny (.ref u) ⟨rest, []⟩) _ _ _
  simp only [callAny]
  refine wpAny_bind (wpAny_load hu ?_)
  simp only [W.kxs_mw, show (Value.type "method-wrapper" == Value.type "method" || Value.type "method-wrapper" == Value.type "builtin_function_or_method" || Value.type "method-wrapper" == Value.type "method-wrapper") = true by decide, if_true]
  refine W.KFB.if_so (by decide) ?_
  refine wpAny_bind (ESX.check_bound PySem.F.excBase_ValueError hC he rfl ?_)
  refine wpAny_bind (wpAny_pure (wpAny_pure ?_))
  refine ⟨Code.quiet_builtin _ (by decide +kernel), codeAny_builtin PySem.F.excBase_ValueError.initEntry ?_⟩
  rw [Around.under_plainId PySem.F.excBase_ValueError.init.plain _]
  wp_walk
  refine hq _ h.objs.size (fun b o hb ho => ?_) ?_
  · rw [Heap.get?_update_other _ _ (Ne.symm hb)]
    exact Heap.get?_push_of_some _ ho
  · rw [Heap.get?_update_self _ (Heap.get?_push_of_some _ he) rfl]
    rfl
end
section
variable {X : Cx} {pins : List (Addr × Obj)} {σ : L2.St} {H : Hp} {s : Shared} {A : Around} {E : Value → Shared → Prop} {a C u : Addr}
/-- the bound method at u, called: nothing of it is told -/
theorem vinit_ok {us : List Value} {Q : Value → Shared → Prop} (T : OexC X.K C) (I : Inv X pins σ H s) (e : H a = some (exo a C none)) (hu : s.heap.get? u = some (W.kxs_mw "ValueError.__init__" a)) (hl : us.length ≤ sizeLine) (h : ∀ s', Inv X pins σ H s' → Q .none s') :
    wpAny (model X.prog X.w) A (call (.ref u) us) Q E s := by
  obtain ⟨nm, q, N, bs, bm, sn, sub, ab, col, dd, k0, k1, k2, k3, k5, hC, hbm⟩ := T.cls
  obtain ⟨t1, ho⟩ := exo_at I.hok e
  obtain ⟨hp, g, d, t, os⟩ := s
  refine vcall (I.kIn _ _ hC) ho hu hl fun h' t2 k hx => ?_
  have J := I.write (t' := t) (x := a) (e := a) (o := exo a C none) (by rw [e]; exact True.intro) (.inl rfl) k ⟨_, hx⟩ (exo_ok hx)
  have eu : upd H a (exo a C none) = H := by
    funext b
    by_cases hb : b = a
    · rw [hb, upd_same, e]
    · rw [upd_ne hb]
  rw [eu] at J
  exact h _ J
end
/-! ### the statement super().__init__(..) -/
/-- what the written part says of such a def: its class C, its cell, its code -/
structure SupD (K : PySem.W.Frag) (P : Program) (C f cc cda : Addr) (qual : Str) (params : Arguments) (body : List Stmt) (scope : Scope) (fd : FuncData) : Prop where
  lf : ∃ (oc : Value) (od : Option Addr) (doc pm ctv : Value) (osl : Array (Option Value)), fd = PySem.W.fnX "__init__" qual params body scope [("__class__", cc)] .none .none doc pm none (.ref cda) ctv ∧ K.lookup f = some ⟨oc, od, .func fd, osl⟩
  head : ∃ ar : Arg, (params.posonlyargs ++ params.args).head? = some ar ∧ ar.arg = "self"
  code : ∃ (ccl : Value) (cdd : Option Addr) (vs : Array Value) (ccs : Array (Option Value)) (file : Str) (tf : Tok), K.lookup cda = some ⟨ccl, cdd, .fields vs, ccs⟩ ∧ vs[2]? = some (.str file tf) ∧ ((P.main.file : Str) == file) = true
  cell : ∃ (cl : Value) (cld : Option Addr) (csl : Array (Option Value)), K.lookup cc = some ⟨cl, cld, .cell (some (.ref C)), csl⟩
  cls : ∃ cd, PySem.W.clsIn K C = some cd
  sub : PySem.W.mroIn K C (.ref C) = some true
  top : (P.main.scope.names.lookup ("super" : Str)).isSome = false
  opq : PySem.W.nsIn K cStatics "thirdparty.any" = some none
  along : PySem.W.ks_superIn K C C "__init__" = some (some (.builtin "ValueError.__init__"))
  subB : PySem.W.subIn K (.ref C) (.type "ValueError") = some true
  codeq : PySem.W.codeIn K (.ref cda) qual = true
section
variable {X : Cx} {σ : L2.St} {H : Hp} {s : Shared} {a C f cc cda L : Addr} {qual : Str} {params : Arguments} {body : List Stmt} {scope : Scope} {fd : FuncData} {e : Expr} {es : List Expr} {ta : TA} {p0 p1 p2 pos spos : Pos}
theorem sup_stmt {pl : Sem Bool} {Qn : Hp → Prop} (D : SupD X.K X.prog C f cc cda qual params body scope fd) (henv : X.env = PySem.W.envX qual scope L f (.ref cda) [("__class__", cc)]) (hms : X.mg "super" = none)
    (hk : scope.kind = .function) (hks : scope.names.lookup ("super" : Str) = some .globalImplicit) (hkc : scope.names.lookup ("__class__" : Str) = some .free) (hka : scope.names.lookup ("self" : Str) = some .local)
    (hN : X.N[0]? = some ("self" : Str)) (I : Inv X [] σ H s) (hσ : σ[0]? = some (some (.ref a))) (T : OexC X.K C) (ea : H a = some (exo a C none)) (ha : PA X (e :: es) ta)
    (q : ta σ H fun vs H1 => vs.length ≤ 1000 ∧ H1 a = some (exo a C none) ∧ Qn H1)
    (hc : eval (.Call (.Attribute (.Call (.Name "super" p0) [] [] p1) "__init__" p2) (e :: es) [] pos) X.env = (do
      let ov ← attributeBase (.Call (.Name "super" p0) [] [] p1) "__init__" X.env (eval (.Call (.Name "super" p0) [] [] p1) X.env)
      standAt p2.atName
      let (f, first) ← holding [ov] (getMethod ov "__init__" pl)
      callWith pos f first (backTo pos (starEach (e :: es) X.env)) []) := by rfl)
    (he : starEach (e :: es) X.env = (false, eval e X.env) :: starEach es X.env := by rfl) (hpl : (backTo pos (starEach es X.env)).any (·.1) = false := by rfl)
    (hint : interactive X.env = false := by rfl) (hsw : swapsWith (.Call (.Attribute (.Call (.Name "super" p0) [] [] p1) "__init__" p2) (e :: es) [] pos) none spos.line X.env = pure false := by rfl) :
    _root_.PySem.wpAt (model X.prog X.w) X.A (.func body X.env) (exec (.Expr (.Call (.Attribute (.Call (.Name "super" p0) [] [] p1) "__init__" p2) (e :: es) [] pos) spos) X.env) (fun fl s' => fl = .next ∧ ∃ H', Inv X [] σ H' s' ∧ Qn H') X.xe s := by
  refine ks_wpAt_Expr_any ?_ hint hsw
  refine ks_wpAt_MethodCall (pl := pl) ?_ hc
  have X1 := I.kIn
  obtain ⟨oc, od, doc, pm, ctv, osl, efd, hlf⟩ := D.lf
  obtain ⟨ar, har, earg⟩ := D.head
  obtain ⟨ccl, cdd, vs, ccs, file, tf, hcode, hvs, hfile⟩ := D.code
  obtain ⟨cl, cld, csl, hcell⟩ := D.cell
  obtain ⟨cd, hcd⟩ := D.cls
  obtain ⟨oD, hD1, hD2⟩ : ∃ oD, s.heap.get? C = some oD ∧ oD.data = .cls cd := by
    unfold PySem.W.clsIn at hcd
    split at hcd
    · rename_i c d cd' sl ho
      cases hcd
      exact ⟨_, X1 _ _ ho, rfl⟩
    · cases hcd
  obtain ⟨t1, hx⟩ := exo_at I.hok ea
  have k1 : X.env.kindOf "super" = some .globalImplicit := by rw [henv]; exact hks
  have k2 : X.env.kindOf "__class__" = some .free := by rw [henv]; exact hkc
  have k3 : X.env.kindOf "self" = some .local := by rw [henv]; exact hka
  have hkX : X.env.scope.kind = .function := by rw [henv]; exact hk
  refine ks_wpAt_super_base (f := f) (cc := cda) (fd := fd) (ar := ar) k1 k2 (by decide) (by rw [henv]) (X1 _ _ hlf) rfl (by rw [efd]; exact har) (by rw [henv]) (X1 _ _ hcode) rfl hvs hfile D.top ?_
  obtain ⟨mb, hb1, hb2⟩ := I.ok.mod.blt
  refine W.ks_loadName_global hkX k1 (Calls.loadGlobal_builtin (by rw [I.ok.glob]; exact I.ok.mod.glob.keeps I.bk) hms (by rw [I.ok.blt]; exact hb1.keeps I.bk) ((hb2 "super" (by decide)).trans (by decide +kernel : bootBuiltins "super" = some (.type "super"))) ⟨rfl, ?_⟩)
  refine wpAny_loadName_free hkX k2 (c := cc) (v := .ref C) (by rw [henv]; rfl) ⟨_, X1 _ _ hcell, rfl⟩ ?_
  obtain ⟨m, hns, hloc⟩ := I.loc
  obtain ⟨u, ru, lu⟩ := hloc 0 "self" (.ref a) hN hσ (.inl k3)
  obtain rfl : u = Value.ref a := ru
  have hm : m "self" = some (.ref a) := by
    rcases lu with lu | ⟨lu, _⟩
    · exact lu.2
    · rw [k3] at lu
      rcases lu with z | z <;> cases z
  rw [earg]
  refine wpAny_loadName_local hkX k3 hns hm ?_
  refine ks_wpAny_isType_cls hD1 hD2 ⟨rfl, ?_⟩
  obtain ⟨hp, g, d, tk, os⟩ := s
  refine ks_wpAny_call_super hD1 hD2 hx rfl (fun c z => by cases z) (W.looks_mroIn X1 D.sub) (fun h1 so k => ?_)
  have I1 := ClX.pin_new (t' := tk) I k (Nat.le_refl _) so (fun v z => by cases z)
  have X2 := I1.kIn
  have hso : h1.get? hp.objs.size = some { cls := .type "super", dict := none, data := .fields #[.ref C, .ref a, .ref C], slots := #[] } := so
  have hxC : a ≠ C := fun z => by
    rw [z, hD1] at hx
    have := Option.some.inj hx
    rw [this] at hD2
    cases hD2
  have hIs : W.Looks (model X.prog X.w) h1 (isInstance (.ref a) (.type "ValueError")) true := by
    have J : W.InstAt h1 a _ C none := ⟨k _ _ hx, rfl, rfl, trivial⟩
    exact J.type.andThen (W.looks_subIn X2 D.subB)
  have hal : PySem.W.alongIn X.K "__init__" ((cd.mro.dropWhile (· != .ref C)).drop 1) = some (some (.builtin "ValueError.__init__")) := by
    have := D.along
    unfold PySem.W.ks_superIn at this
    rw [hcd] at this
    exact this
  refine W.kxs_getMethod W.kxs_ValueError hso (W.looks_opaque X2 D.opq) (l₀ := cd.mro) (fun A Q E s k q => wpAny_bind ((W.looks_clsIn X2 hcd) A _ E s k (wpAny_pure q))) rfl X2 hal hIs hxC (by decide) ?_
  have hu : (h1.push (W.kxs_mw "ValueError.__init__" a)).get? h1.objs.size = some (W.kxs_mw "ValueError.__init__" a) := Heap.get?_push_at rfl rfl
  have I2 := ClX.pin_new (t' := tk + 1) I1 (fun b o z => Heap.get?_push_of_some _ z) (Nat.le_refl _) hu (fun v z => by cases z)
  rw [he]
  refine W.kxs_callWith (i := "ValueError.__init__") (x := a) (by show (false || (backTo pos (starEach es X.env)).any (·.1)) = false; rw [hpl]; rfl) (Calls.evalArgs_plain ?_)
  have z := ha.run pos _ _ σ H _ I2 q
  rw [he] at z
  refine thn z fun us s3 ⟨vs2, H3, I3, r3, l3, ea3, q3⟩ => ⟨ClX.pin_at I3, ?_⟩
  refine vinit_ok T I3 ea3 (ClX.pin_at I3) (by show us.length ≤ sizeLine; rw [← r3.length, sizeLine_eq]; omega) fun s4 I4 => ?_
  exact ⟨rfl, H3, ClX.unpin (ClX.unpin I4), q3⟩
end
/-! ### the def -/
section
variable {CX : CXT} {P : Program} {w : World} {K : PySem.W.Frag} {mg : Str → Option Value} {base : Heap} {N ps : List Str} {C f cc cda : Addr} {qual : Str} {params : Arguments} {st0 : Stmt} {rest : List Stmt} {scope : Scope} {fd : FuncData} {k : Nat} {sp : L2.Sp}
abbrev supF (qual : Str) (params : Arguments) (body : List Stmt) (scope : Scope) (cc cda : Addr) : NF := ⟨"__init__", qual, params, body, scope, [("__class__", cc)], cda⟩
/-- THE RULE: a def of a class that names super() in its first statement -/
theorem fn_super (D : SupD K P C f cc cda qual params (st0 :: rest) scope fd) (S : NScope N ps ["__class__"] scope) (len : ∀ vs H Q E, sp vs H Q E → vs.length = ps.length)
    (hbody : ∀ (A : Around) (outer : List Env) (s s1 : Shared) (H : Hp) (vs : List V) (Q : VK) (E : XK), Room k (A.deeper (PySem.W.envX qual scope s.heap.objs.size f (.ref cda) [("__class__", cc)])) → sp vs H Q E →
      Inv (ncx CX P w K mg base N (supF qual params (st0 :: rest) scope cc cda) f A outer s H E) [] (startF N vs [some (.ref C)]) H s1 →
      ∃ t, PSs (ncx CX P w K mg base N (supF qual params (st0 :: rest) scope cc cda) f A outer s H E) rest t ∧
        _root_.PySem.wpAt (model P w) (ncx CX P w K mg base N (supF qual params (st0 :: rest) scope cc cda) f A outer s H E).A (.func (st0 :: rest) (PySem.W.envX qual scope s.heap.objs.size f (.ref cda) [("__class__", cc)])) (exec st0 (PySem.W.envX qual scope s.heap.objs.size f (.ref cda) [("__class__", cc)]))
          (fun fl s' => fl = .next ∧ ∃ H', Inv (ncx CX P w K mg base N (supF qual params (st0 :: rest) scope cc cda) f A outer s H E) [] (startF N vs [some (.ref C)]) H' s' ∧ t { nx := fun _ H' => Q .non H', rt := Q } (startF N vs [some (.ref C)]) H')
          (ncx CX P w K mg base N (supF qual params (st0 :: rest) scope cc cda) f A outer s H E).xe s1) :
    FnOk P w K mg base CX (k + 1) f fd ps sp := by
  obtain ⟨oc, od, doc, pm, ctv, osl, efd, hlf⟩ := D.lf
  obtain ⟨cl, cld, csl, hcell⟩ := D.cell
  refine ⟨len, fun A outer s H args us vs Q E hr e0 hb r hsp => ?_⟩
  have hl := len _ _ _ _ hsp
  have KX : K.In s.heap := e0.mod.kin.keeps fun b o e => (e0.bs b o e).1
  have lim : s.heap.NoLimit := e0.mod.nolimit.keeps fun b o e => (e0.bs b o e).1
  have hcn : H cc = none := (e0.bs cc _ (e0.mod.kin _ _ hcell)).2
  have hcc : s.heap.IsCell cc (some (.ref C)) := ⟨_, KX _ _ hcell, rfl⟩
  have CA : CellsAt [(("__class__" : Str), cc)] ["__class__"] [some (.ref C)] s.heap H := by
    have look : ∀ y c, ([(("__class__" : Str), cc)] : List (Str × Addr)).lookup y = some c → y = "__class__" ∧ c = cc := fun y c e => by
      have := PySem.mem_of_lookup e
      simpa using this
    refine ⟨rfl, fun y c e => ?_, fun x y c e1 e2 => (look x c e1).1.trans (look y c e2).1.symm, fun i y e => ?_⟩
    · obtain ⟨_, rfl⟩ := look y c e
      exact ⟨hcn, _, hcc⟩
    · match i, e with
      | 0, e =>
        cases e
        refine ⟨cc, by simp [List.lookup], fun v e => ?_⟩
        cases e
        exact ⟨_, rfl, hcc⟩
  subst efd
  refine codeAny_call_function hr.depth (KX _ _ hlf) rfl S.co S.gen rfl (PySem.W.codeRec_of KX D.codeq) (hb _ _ _ _ ?_)
  refine wpAny_newFunctionEnv S.nocell (fun ⟨n, _⟩ hy => S.par n (List.of_mem_zip hy).1) (fun h₁ hns hsb => ⟨lim.fresh _ hsb, ?_⟩) S.kind
  show codeAny _ _ (.func (st0 :: rest) (PySem.W.envX qual scope s.heap.objs.size f (.ref cda) [("__class__", cc)])) _ _
  refine ks_codeAny_funcAt ?_
  have kp : ∀ b o, s.heap.get? b = some o → h₁.get? b = some o := fun b o e => hsb.extBut b o (Nat.ne_of_lt (Heap.lt_size e)) (Heap.get?_push_of_some _ e)
  have I : Inv (ncx CX P w K mg base N (supF qual params (st0 :: rest) scope cc cda) f A outer s H E) [] (startF N vs [some (.ref C)]) H { s with heap := h₁, toks := s.toks + (ps.zip us).length } := inv_startN S hr.hd e0 hl r CA hns kp
  obtain ⟨t, ht, h0⟩ := hbody A outer s _ H vs Q E (hr.deeper _) hsp I
  refine ks_wpAt_execs_cons (ks_wpAt_mono h0 (fun fl s' hs => ?_) fun _ _ z => z)
  obtain ⟨rfl, H', J, q⟩ := hs
  refine wpAt_of_wpAny (wpAny_mono (ht.run [] _ _ H' _ J q) (fun fl s'' hs => ?_) fun e s'' hs => hs)
  have fin : ∀ {σ' : L2.St} {H' : Hp} {v : V} {u : Value}, Inv (ncx CX P w K mg base N (supF qual params (st0 :: rest) scope cc cda) f A outer s H E) [] σ' H' s'' → L2.RelV v u → Q v H' → CE outer P w H s Q u s'' :=
    fun {σ' H' v u} J rv q => ⟨v, H', J.os, J.bare, J.base, J.hok, rv, q⟩
  cases fl with
  | ret u =>
    obtain ⟨v, σ', H', J, rv, q⟩ := hs
    exact fin J rv q
  | next =>
    obtain ⟨σ', H', J, q⟩ := hs
    exact fin (v := V.non) (u := Value.none) J rfl q
  | brk =>
    obtain ⟨_, _, _, q⟩ := hs
    exact False.elim q
  | cont =>
    obtain ⟨_, _, _, q⟩ := hs
    exact False.elim q
end
end Dz

/-! Tables of lists in dicts; a comprehension whose element changes what is owned. -/
namespace Dz
open PySem L2
abbrev Ords := List (Str × List Str)
def lookO (O : Ords) (n : Str) : List Str := ((O.find? fun p => decide (p.1 = n)).map (·.2)).getD []
/-! ### lookups -/
theorem lookO_at {O : Ords} {n : Str} {l : List Str} (hn : (O.map (·.1)).Nodup) (h : (n, l) ∈ O) : lookO O n = l := by
  unfold lookO
  induction O with
  | nil => cases h
  | cons p r ih =>
    rw [List.map_cons, List.nodup_cons] at hn
    rcases List.mem_cons.mp h with rfl | q
    · rw [List.find?_cons_of_pos (by simp)]
      rfl
    · have hne : ¬ p.1 = n := fun e => hn.1 (e ▸ List.mem_map.mpr ⟨_, q, rfl⟩)
      rw [List.find?_cons_of_neg (by simp [hne])]
      exact ih hn.2 q
theorem lookO_app {O : Ords} {p : Str × List Str} {n : Str} (h : n ∈ O.map (·.1)) : lookO (O ++ [p]) n = lookO O n := by
  unfold lookO
  rw [List.find?_append]
  cases e : O.find? fun p => decide (p.1 = n) with
  | some y => rfl
  | none =>
    obtain ⟨q, hq, rfl⟩ := List.mem_map.mp h
    have := List.find?_eq_none.mp e q hq
    simp at this
theorem lookO_mem {O : Ords} {n : Str} (h : n ∈ O.map (·.1)) : (n, lookO O n) ∈ O := by
  unfold lookO
  cases e : O.find? fun p => decide (p.1 = n) with
  | some y =>
    have h1 := List.mem_of_find?_eq_some e
    have h2 := List.find?_some e
    have h3 : y.1 = n := by simpa using h2
    rw [← h3]
    exact h1
  | none =>
    obtain ⟨q, hq, rfl⟩ := List.mem_map.mp h
    have := List.find?_eq_none.mp e q hq
    simp at this
/-- a dict of orders -/
structure OrdsAt (K : PySem.W.Frag) (I : Hp) (kvs : List (Key × V)) (O : Ords) : Prop where
  ks : kvs.map (·.1) = O.map fun p => Sum.inr p.1
  vs : Rps K I (kvs.map (·.2)) (O.map (·.2))
theorem OrdsAt.same {K : PySem.W.Frag} {I I' : Hp} {kvs : List (Key × V)} {O : Ords} (e : Same I I') (h : OrdsAt K I kvs O) : OrdsAt K I' kvs O := ⟨h.ks, h.vs.same e⟩
theorem OrdsAt.get {K : PySem.W.Frag} {I : Hp} : ∀ {O : Ords} {kvs : List (Key × V)} {n : Str}, OrdsAt K I kvs O → n ∈ O.map (·.1) → ∃ v, valV kvs (.inr n) = some v ∧ Rp K I v (lookO O n)
  | [], _, _, _, hn => by cases hn
  | p :: O, kvs, n, h, hn => by
    obtain ⟨ks, vs⟩ := h
    match kvs, ks with
    | kv :: kvs, ks =>
      rw [List.map_cons, List.map_cons, List.cons.injEq] at ks
      rw [List.map_cons, List.map_cons] at vs
      obtain ⟨v, ws, e1, r, rs⟩ := vs.inv
      rw [List.cons.injEq] at e1
      obtain ⟨rfl, rfl⟩ := e1
      by_cases q : p.1 = n
      · refine ⟨kv.2, valV_pos (by rw [ks.1, q]), ?_⟩
        have : lookO (p :: O) n = p.2 := by
          unfold lookO
          rw [List.find?_cons_of_pos (by simp [q])]
          rfl
        rw [this]
        exact r
      · have hn2 : n ∈ O.map (·.1) := by
          rw [List.map_cons] at hn
          rcases List.mem_cons.mp hn with e | e
          · exact absurd e.symm q
          · exact e
        obtain ⟨v, h1, h2⟩ := OrdsAt.get ⟨ks.2, rs⟩ hn2
        refine ⟨v, by rw [valV_neg (by rw [ks.1]; intro e; exact q (Sum.inr.inj e)), h1], ?_⟩
        have : lookO (p :: O) n = lookO O n := by
          unfold lookO
          rw [List.find?_cons_of_neg (by simp [q])]
        rw [this]
        exact h2
theorem OrdsAt.none {K : PySem.W.Frag} {I : Hp} {O : Ords} {kvs : List (Key × V)} {n : Str} (h : OrdsAt K I kvs O) (hn : n ∉ O.map (·.1)) : valV kvs (.inr n) = none := by
  cases e : valV kvs (.inr n) with
  | none => rfl
  | some v =>
    have := valV_in e
    rw [h.ks] at this
    obtain ⟨p, hp, q⟩ := List.mem_map.mp this
    exact absurd (List.mem_map.mpr ⟨p, hp, Sum.inr.inj q⟩) hn
theorem OrdsAt.put {K : PySem.W.Frag} {I : Hp} {O : Ords} {kvs : List (Key × V)} {n : Str} {v : V} {l : List Str} (h : OrdsAt K I kvs O) (hn : n ∉ O.map (·.1)) (r : Rp K I v l) : OrdsAt K I (putK kvs (.inr n) v) (O ++ [(n, l)]) := by
  rw [putK_new v (h.none hn)]
  refine ⟨by rw [List.map_append, List.map_append, h.ks]; rfl, ?_⟩
  rw [List.map_append, List.map_append]
  exact h.vs.app (Rps.cons r Rps.nil)
theorem OrdsAt.len {K : PySem.W.Frag} {I : Hp} {O : Ords} {kvs : List (Key × V)} (h : OrdsAt K I kvs O) : kvs.length = O.length := by
  have := congrArg List.length h.ks
  simpa using this
/-! ### a comprehension whose element changes what is owned -/
section
variable {K : PySem.W.Frag} {I H : Hp} {M : List (Addr × HO)} {Z : List (Addr × HO) → Prop} {Q : VK} {α : Type} [Enc α] {g : TG} {tt : TT} {te : TE} {vs : List Nat} {σ : L2.St}
def LcPm (I : Hp) (Z : List (Addr × HO) → Prop) (D : Addr) (J : Nat → List V → Hp → List (Addr × HO) → Prop) (i : Nat) (H : Hp) : Prop := ∃ acc, acc.length ≤ i ∧ ∃ I' M', Same I I' ∧ Own H I' ((D, .lst acc) :: M') Z ∧ J i acc I' M'
def LcEm (I : Hp) (Z : List (Addr × HO) → Prop) (D : Addr) (J : Nat → List V → Hp → List (Addr × HO) → Prop) (i : Nat) (y : V) (H : Hp) : Prop := ∃ acc, H D = some (.lst acc) ∧ acc.length < sizeLine ∧ LcPm I Z D J i (upd H D (.lst (acc ++ [y])))
theorem x_lcEm {D : Addr} {J : Nat → List V → Hp → List (Addr × HO) → Prop} {i : Nat} {y : V} {acc : List V} {I4 : Hp} {M4 : List (Addr × HO)} (e : Same I I4) (S : Own H I4 ((D, .lst acc) :: M4) Z) (hl : acc.length ≤ i) (hz : i < sizeLine) (j : J (i + 1) (acc ++ [y]) I4 M4) : LcEm I Z D J (i + 1) y H := by
  refine ⟨acc, S.get (i := 0) rfl, Nat.lt_of_le_of_lt hl hz, acc ++ [y], ?_, I4, M4, e, S.set 0 rfl, j⟩
  rw [List.length_append, List.length_singleton]
  omega
theorem x_lcLm {p : Addr} {xs : List V} {l : List α} (S : Own H I M Z) (hx : I p = some (.lst xs)) (rx : Rps K I xs l) (J : Nat → List V → Hp → List (Addr × HO) → Prop) (h0 : J 0 [] I M)
    (hs : ∀ i x v acc D I' M' H', l[i]? = some x → Same I I' → Rp K I' v x → Own H' I' ((D, .lst acc) :: M') Z → acc.length ≤ i → J i acc I' M' → g v (wipe σ vs) H' fun σ2 H2 => wipe σ2 vs = wipe σ vs ∧ tt σ2 H2 fun b H3 =>
      if b = true then te σ2 H3 (LcEm I Z D J (i + 1)) else LcPm I Z D J (i + 1) H3)
    (hd : ∀ D acc I' M' H', Same I I' → Own H' I' ((D, .lst acc) :: M') Z → J l.length acc I' M' → Q (.ref D) H') : LcK (Itl K p) g tt te vs σ H Q := by
  intro D hD
  have S0 : Own (upd H D (.lst [])) I ((D, .lst []) :: M) Z := S.newM hD
  refine lc_list (K := K) (a := p) (xs := xs) (LcPm I Z D J) ⟨[], Nat.le_refl _, I, M, Same.refl _, S0, h0⟩
    (fun i H' _ ⟨acc, _, I', M', e, S', _⟩ => SqL.of (S'.imm _ _ (e _ _ hx))) ?_ ?_
  · rintro i v H' hv ⟨acc, hl, I', M', e, S', j⟩
    obtain ⟨x, hx', rv⟩ := rx.get hv
    exact hs i x v acc D I' M' H' hx' e (rv.same e) S' hl j
  · rintro H' ⟨acc, hl, I', M', e, S', j⟩
    rw [rx.len] at j
    exact hd D acc I' M' H' e S' j
end
end Dz

/-! The merge of orders and the order of a class: the mathematics. -/
namespace Dz
open PySem L2
def standsB (x : Str) (rows : List (List Str)) : Bool := rows.any fun r => decide (x ∈ r.drop 1)
def cutHead (h : Str) (r : List Str) : List Str := if r.headD "" = h then r.drop 1 else r
def withoutL (rows : List (List Str)) (h : Str) : List (List Str) := (rows.map (cutHead h)).filter fun r => !r.isEmpty
def headsL (rows : List (List Str)) : List Str := rows.foldl (fun acc r => if r.headD "" ∈ acc then acc else acc ++ [r.headD ""]) []
def freeL (rows : List (List Str)) : Option Str := (rows.find? fun r => !standsB (r.headD "") rows).map fun r => r.headD ""
def sumL (rows : List (List Str)) : Nat := (rows.map List.length).sum
def mergeP : Nat → List (List Str) → Except (List Str) (List Str)
  | 0, _ => .ok []
  | n + 1, rows => if rows = [] then .ok [] else match freeL rows with
    | none => .error (headsL rows)
    | some x => (mergeP n (withoutL rows x)).map (x :: ·)
def mergeL (rows : List (List Str)) : Except (List Str) (List Str) := mergeP (sumL (rows.filter fun r => !r.isEmpty) + 1) (rows.filter fun r => !r.isEmpty)
theorem free_mem {rows : List (List Str)} {x : Str} (h : freeL rows = some x) : ∃ r ∈ rows, r.headD "" = x := by
  unfold freeL at h
  cases e : rows.find? (fun r => !standsB (r.headD "") rows) with
  | none => rw [e] at h; cases h
  | some r =>
    rw [e] at h
    cases h
    exact ⟨r, List.mem_of_find?_eq_some e, rfl⟩
theorem without_ne (rows : List (List Str)) (x : Str) : ∀ r ∈ withoutL rows x, r ≠ [] := fun r hr e => by
  have := (List.mem_filter.mp hr).2
  rw [e] at this
  cases this
theorem free_not {rows : List (List Str)} {x : Str} (h : freeL rows = some x) : standsB x rows = false := by
  unfold freeL at h
  cases e : rows.find? (fun r => !standsB (r.headD "") rows) with
  | none => rw [e] at h; cases h
  | some r =>
    rw [e] at h
    cases h
    have := List.find?_some e
    simpa using this
/-- the chosen head is gone -/
theorem without_not {rows : List (List Str)} {x : Str} (h : standsB x rows = false) : ∀ r ∈ withoutL rows x, x ∉ r := fun r hr hx => by
  obtain ⟨q, hq, rfl⟩ := List.mem_map.mp (List.mem_filter.mp hr).1
  have hn : x ∉ q.drop 1 := fun z => by
    have := List.any_eq_false.mp h q hq
    exact this (decide_eq_true z)
  unfold cutHead at hx
  split at hx
  · exact hn hx
  · rename_i hh
    cases q with
    | nil => cases hx
    | cons a t =>
      rcases List.mem_cons.mp hx with e | e
      · exact hh e.symm
      · exact hn e
theorem cut_sub {x : Str} {r : List Str} : ∀ y ∈ cutHead x r, y ∈ r := fun y hy => by
  unfold cutHead at hy
  split at hy
  · exact List.mem_of_mem_drop hy
  · exact hy
theorem without_sub {rows : List (List Str)} {x : Str} : ∀ r ∈ withoutL rows x, ∃ q ∈ rows, ∀ y ∈ r, y ∈ q := fun r hr => by
  obtain ⟨q, hq, rfl⟩ := List.mem_map.mp (List.mem_filter.mp hr).1
  exact ⟨q, hq, cut_sub⟩
theorem head_in {r : List Str} (h : r ≠ []) : r.headD "" ∈ r := by
  cases r with
  | nil => exact absurd rfl h
  | cons a t => exact List.mem_cons_self ..
theorem mergeP_sub : ∀ (n : Nat) (rows : List (List Str)) (l : List Str), (∀ r ∈ rows, r ≠ []) → mergeP n rows = .ok l → ∀ y ∈ l, ∃ r ∈ rows, y ∈ r
  | 0, _, l, _, h, y, hy => by
    cases h
    cases hy
  | n + 1, rows, l, hne, h, y, hy => by
    unfold mergeP at h
    split at h
    · cases h
      cases hy
    · cases e : freeL rows with
      | none => rw [e] at h; cases h
      | some x =>
        rw [e] at h
        dsimp only at h
        cases em : mergeP n (withoutL rows x) with
        | error z => rw [em] at h; cases h
        | ok m =>
          rw [em] at h
          cases h
          rcases List.mem_cons.mp hy with rfl | hy
          · obtain ⟨r, hr, e2⟩ := free_mem e
            exact ⟨r, hr, by rw [← e2]; exact head_in (hne r hr)⟩
          · obtain ⟨r, hr, h2⟩ := mergeP_sub n _ m (without_ne rows x) em y hy
            obtain ⟨q, hq, h3⟩ := without_sub r hr
            exact ⟨q, hq, h3 y h2⟩
theorem mergeP_nodup : ∀ (n : Nat) (rows : List (List Str)) (l : List Str), (∀ r ∈ rows, r ≠ []) → mergeP n rows = .ok l → l.Nodup
  | 0, _, l, _, h => by
    cases h
    exact List.nodup_nil
  | n + 1, rows, l, hne, h => by
    unfold mergeP at h
    split at h
    · cases h
      exact List.nodup_nil
    · cases e : freeL rows with
      | none => rw [e] at h; cases h
      | some x =>
        rw [e] at h
        dsimp only at h
        cases em : mergeP n (withoutL rows x) with
        | error z => rw [em] at h; cases h
        | ok m =>
          rw [em] at h
          cases h
          refine List.nodup_cons.mpr ⟨fun hx => ?_, mergeP_nodup n _ m (without_ne rows x) em⟩
          obtain ⟨r, hr, h2⟩ := mergeP_sub n _ m (without_ne rows x) em x hx
          exact without_not (free_not e) r hr h2
theorem filt_ne (rows : List (List Str)) : ∀ r ∈ rows.filter (fun r => !r.isEmpty), r ≠ [] := fun r hr e => by
  have := (List.mem_filter.mp hr).2
  rw [e] at this
  cases this
theorem mergeL_sub {rows : List (List Str)} {l : List Str} (h : mergeL rows = .ok l) : ∀ y ∈ l, ∃ r ∈ rows, y ∈ r := fun y hy => by
  obtain ⟨r, hr, h2⟩ := mergeP_sub _ _ l (filt_ne rows) h y hy
  exact ⟨r, (List.mem_filter.mp hr).1, h2⟩
theorem mergeL_nodup {rows : List (List Str)} {l : List Str} (h : mergeL rows = .ok l) : l.Nodup := mergeP_nodup _ _ l (filt_ne rows) h
/-! ### the order of a class -/
def rowsP (f : Str → Except (List Str) (List Str)) : List Str → Except (List Str) (List (List Str))
  | [] => .ok []
  | b :: r => match f b with
    | .error h => .error h
    | .ok l => match rowsP f r with
      | .error h => .error h
      | .ok ls => .ok (l :: ls)
def ordP : Nat → Ords → Str → Except (List Str) (List Str)
  | 0, _, _ => .ok []
  | n + 1, L, x => match rowsP (ordP n L) (lookO L x) with
    | .error h => .error h
    | .ok ls => (mergeL (ls ++ [lookO L x])).map (x :: ·)
/-- a table of bases: no class is its own ancestor -/
structure TblOk (L : Ords) (rk : Str → Nat) : Prop where
  nd : (L.map (·.1)).Nodup
  up : ∀ x ∈ L.map (·.1), ∀ b ∈ lookO L x, b ∈ L.map (·.1) ∧ rk b < rk x
  few : ∀ x ∈ L.map (·.1), (lookO L x).length ≤ 4
  bnd : ∀ x ∈ L.map (·.1), rk x ≤ 20
  siz : L.length ≤ 40
theorem rowsP_congr {f g : Str → Except (List Str) (List Str)} : ∀ {l : List Str}, (∀ b ∈ l, f b = g b) → rowsP f l = rowsP g l
  | [], _ => rfl
  | b :: r, h => by
    rw [rowsP, rowsP, h b (List.mem_cons_self ..), rowsP_congr fun c hc => h c (List.mem_cons_of_mem _ hc)]
theorem ordP_any {L : Ords} {rk : Str → Nat} (T : TblOk L rk) : ∀ (n m : Nat) (x : Str), x ∈ L.map (·.1) → rk x < n → rk x < m → ordP n L x = ordP m L x
  | 0, _, _, _, h, _ => absurd h (Nat.not_lt_zero _)
  | _ + 1, 0, _, _, _, h => absurd h (Nat.not_lt_zero _)
  | n + 1, m + 1, x, hx, h1, h2 => by
    rw [ordP, ordP, rowsP_congr fun b hb => by
      have := T.up x hx b hb
      exact ordP_any T n m b this.1 (by omega) (by omega)]
/-- the order of x -/
def ordL (L : Ords) (rk : Str → Nat) (x : Str) : Except (List Str) (List Str) := ordP (rk x + 1) L x
theorem ordL_eq {L : Ords} {rk : Str → Nat} (T : TblOk L rk) {x : Str} (hx : x ∈ L.map (·.1)) : ordL L rk x = match rowsP (ordL L rk) (lookO L x) with
    | .error h => .error h
    | .ok ls => (mergeL (ls ++ [lookO L x])).map (x :: ·) := by
  unfold ordL
  rw [ordP, rowsP_congr fun b hb => by
    have := T.up x hx b hb
    exact ordP_any T (rk x) (rk b + 1) b this.1 this.2 (Nat.lt_succ_self _)]
theorem rowsP_all {f : Str → Except (List Str) (List Str)} {p : List Str → Prop} : ∀ {l : List Str} {ls : List (List Str)}, rowsP f l = .ok ls → (∀ b ∈ l, ∀ r, f b = .ok r → p r) → ∀ r ∈ ls, p r
  | [], ls, h, _, r, hr => by
    cases h
    cases hr
  | b :: t, ls, h, hp, r, hr => by
    rw [rowsP] at h
    cases e : f b with
    | error z => rw [e] at h; cases h
    | ok l0 =>
      rw [e] at h
      dsimp only at h
      cases e2 : rowsP f t with
      | error z => rw [e2] at h; cases h
      | ok l1 =>
        rw [e2] at h
        cases h
        rcases List.mem_cons.mp hr with rfl | hr
        · exact hp b (List.mem_cons_self ..) _ e
        · exact rowsP_all e2 (fun c hc => hp c (List.mem_cons_of_mem _ hc)) r hr
theorem ordL_in {L : Ords} {rk : Str → Nat} (T : TblOk L rk) : ∀ (n : Nat) (x : Str), rk x < n → x ∈ L.map (·.1) → ∀ l, ordL L rk x = .ok l → l.Nodup ∧ ∀ y ∈ l, y ∈ L.map (·.1) ∧ rk y ≤ rk x
  | 0, _, h, _, _, _ => absurd h (Nat.not_lt_zero _)
  | n + 1, x, hn, hx, l, h => by
    rw [ordL_eq T hx] at h
    cases e : rowsP (ordL L rk) (lookO L x) with
    | error z => rw [e] at h; cases h
    | ok ls =>
      rw [e] at h
      dsimp only at h
      cases em : mergeL (ls ++ [lookO L x]) with
      | error z => rw [em] at h; cases h
      | ok m =>
        rw [em] at h
        cases h
        have low : ∀ y ∈ m, y ∈ L.map (·.1) ∧ rk y < rk x := fun y hy => by
          obtain ⟨r, hr, hyr⟩ := mergeL_sub em y hy
          rcases List.mem_append.mp hr with hr | hr
          · refine rowsP_all (p := fun r => ∀ y ∈ r, y ∈ L.map (·.1) ∧ rk y < rk x) e (fun b hb r' hr' y hy => ?_) r hr y hyr
            have u := T.up x hx b hb
            have := (ordL_in T n b (by omega) u.1 r' hr').2 y hy
            exact ⟨this.1, by omega⟩
          · rw [List.mem_singleton.mp hr] at hyr
            exact T.up x hx y hyr
        refine ⟨List.nodup_cons.mpr ⟨fun z => absurd (low x z).2 (Nat.lt_irrefl _), mergeL_nodup em⟩, fun y hy => ?_⟩
        rcases List.mem_cons.mp hy with rfl | hy
        · exact ⟨hx, Nat.le_refl _⟩
        · have := low y hy
          exact ⟨this.1, by omega⟩
theorem nodup_le' {α : Type} [DecidableEq α] : ∀ {l m : List α}, l.Nodup → (∀ x ∈ l, x ∈ m) → l.length ≤ m.length
  | [], _, _, _ => Nat.zero_le _
  | x :: r, m, hn, hs => by
    have h1 := List.nodup_cons.mp hn
    have hx := hs x (List.mem_cons_self ..)
    have ih := nodup_le' (m := m.erase x) h1.2 fun y hy => by
      have hne : y ≠ x := fun e => h1.1 (e ▸ hy)
      exact (List.mem_erase_of_ne hne).mpr (hs y (List.mem_cons_of_mem _ hy))
    rw [List.length_erase_of_mem hx] at ih
    have h2 := List.length_pos_of_mem hx
    rw [List.length_cons]
    omega
theorem ordL_len {L : Ords} {rk : Str → Nat} (T : TblOk L rk) {x : Str} (hx : x ∈ L.map (·.1)) {l : List Str} (h : ordL L rk x = .ok l) : l.length ≤ 40 := by
  have := ordL_in T (rk x + 1) x (Nat.lt_succ_self _) hx l h
  have h2 := nodup_le' (m := L.map (·.1)) this.1 fun y hy => (this.2 y hy).1
  rw [List.length_map] at h2
  have := T.siz
  omega
end Dz

/-! Calls within a try: by keywords. What a caught error tells. -/
namespace Dz
open PySem L2 PySem.Spec PyProof.Rows
section
variable {X : Cx} {CX : CXT} {k : Nat} {f C : Addr} {fd : FuncData} {ps ks : List Str} {sp : L2.Sp} {E : L2.St → XK} {x : Str} {p pos : Pos} {kws : List Keyword} {tk : TA} {g : List Value → List Value → List Value} {gV : List V → List V → List V}
def tCallKS (sp : L2.Sp) (m : Nat) (gV : List V → List V → List V) (E : L2.St → XK) (tk : TA) : TE := fun σ H Q => tk σ H fun zs H1 => zs.length = m ∧ sp (gV [] zs) H1 Q (E σ)
theorem run_fnkS {pins : List (Addr × Obj)} {σ : L2.St} {H : Hp} {s : Shared} {Q : VK} {ws : List Value} {zs : List V} (F : FnOk X.prog X.w X.K X.mg X.base CX k f fd ps sp) (hr : Room k X.A) (hb : KBn X.K fd ps 0 ks g gV) (hx : PassesAt CX X σ (E σ))
    (I : Inv X pins σ H s) (rz : Vals zs ws) (l : zs.length = ks.length) (h : sp (gV [] zs) H Q (E σ)) : wpAny (model X.prog X.w) X.A (call (.ref f) [] (ks.zip ws)) (EP X pins σ Q) X.xe s := by
  have r2 := hb.rel .nil rz
  refine wpAny_call (codeAny_mono (F.run X.A X.stack s H ⟨[], ks.zip ws⟩ (g [] ws) (gV [] zs) Q (E σ) hr I.env0 (hb.to s [] ws I.kIn rfl (rz.length.symm.trans l)) r2 h) fun r s' hq => ?_)
  cases r with
  | error e => exact hx pins H s e s' I hq
  | ok fl =>
    cases fl with
    | ret u => exact I.after hq
    | next => exact False.elim hq
    | brk => exact False.elim hq
    | cont => exact False.elim hq
/-- f(k = v, ..) in a try -/
theorem pe_callKS0 (F : FnOk X.prog X.w X.K X.mg X.base CX k f fd ps sp) (hr : Room k X.A) (hg : Gl X x) (hm : X.mg x = some (.ref f)) (hk : PySem.W.keepIn X.K (.ref f) = true) (hb : KBn X.K fd ps 0 ks g gV) (hx : ∀ σ, PassesAt CX X σ (E σ))
    (hkw : PK X kws tk) (hall : (backToKw pos (keywordEach kws X.env)).all (·.1.isSome) = true := by rfl) (hks : (backToKw pos (keywordEach kws X.env)).filterMap (·.1) = ks := by rfl) (hdb : (x == ("__debug__" : Str)) = false := by decide)
    (hpl : ((backTo pos (starEach [] X.env)).any (·.1) || (backToKw pos (keywordEach kws X.env)).any (·.1.isNone)) = false := by rfl) :
    PE X (.Call (.Name x p) [] kws pos) (tCallKS sp ks.length gV E tk) := by
  refine ⟨fun pins s σ H Q I h => ?_⟩
  refine wpAny_Call_Name_kw (ld_glob I hg hm ?_ hdb)
  refine PySem.W.callWith_KW0 (h₀ := X.base) I.ok.mod.kin hk hall (thn (hkw.run pos pins s σ H _ I h) fun ws s2 ⟨zs, H2, I2, rz, lz, q2⟩ => ⟨I2.kIn, ?_⟩) hpl
  rw [hks]
  exact run_fnkS F hr hb (hx σ) I2 rz lz q2
end
/-- an error of an own class is met by an except that names the class -/
theorem exm_own {K : PySem.W.Frag} {C : Addr} (b : PySem.W.subIn K (.ref C) (.type "BaseException") = some true) (i : PySem.W.isClsIn K C = true) (t : PySem.W.typeIn K (.ref C) = some (.type "type")) (r : PySem.W.subIn K (.ref C) (.ref C) = some true) : PySem.W.exmOne K (.ref C) (.ref C) = some true := by
  have i' : (PySem.W.clsIn K C).isSome = true := i
  unfold PySem.W.exmOne PySem.W.kitCls
  simp [b, i', t, r]
/-- the answer of a class's order -/
def ansL : Except (List Str) (List Str) → Bool × List Str
  | .ok l => (true, l)
  | .error l => (false, l)
section
variable {σ : L2.St} {H : Hp} {Q : VK} {K : PySem.W.Frag}
theorem x_xf {a : Addr} {cls : Value} {d : Option Addr} {C : Addr} {f : Str} {te : TE} (k : te σ H fun x H1 => x = .ref a ∧ cls = .ref C ∧ ∃ (dd : Addr) (fs : List (Str × V)) (v : V), d = some dd ∧ H1 dd = some (.xd fs) ∧ fs.lookup f = some v ∧ Q v H1) : tXf a cls d C f te σ H Q := k
theorem x_callKS {sp : L2.Sp} {m : Nat} {gV : List V → List V → List V} {E : L2.St → XK} {tk : TA} (k : tk σ H fun zs H1 => zs.length = m ∧ sp (gV [] zs) H1 Q (E σ)) : tCallKS sp m gV E tk σ H Q := k
end
end Dz

/-! != of two dicts of lists that are equal. What stood still becomes owned. -/
namespace Dz
open PySem L2 PySem.W PySem.Spec PyProof.Rows PySem.Calls PyProof.V
section
variable {prog : Program} {w : World} {A : Around} {E : Value → Shared → Prop} {s : Shared}
theorem ne_dicts {a b : Addr} {ka kb : List (Key × Value)} {r : Bool} {Q : Value → Shared → Prop} (ha : (a == sysModules) = false) (hb : (b == sysModules) = false)
    (da : s.heap.DictOf (mixKind prog w) a ka) (db : s.heap.DictOf (mixKind prog w) b kb) (hu : A.units < cLine) (hits : ka.length = kb.length → KeqHitsP prog w A.in1 s kb ka r) (h : Q (.bool (!(ka.length == kb.length && r))) s) :
    wpAny (model prog w) A (compareOp .NotEq (.ref a) (.ref b)) Q E s := by
  refine wpAny_richCompare_same_room (op := .NotEq) da.typeIs db.typeIs PySem.F.slot_dict_ne (wpAny_call_entry PySem.F.slot_dict_ne da.typeIs PySem.F.entry_dict_ne ?_ (PySem.F.args_dict_ne_2 _ _)) hu
  show wpAny _ _ (Builtin.Dict.dictSlotArgs "__ne__" ⟨[.ref a, .ref b], []⟩ >>= _) _ _ s
  refine wpAny_bind ?_
  unfold Builtin.Dict.dictSlotArgs
  refine wpAny_bind (wpAny_notOrdered_dict da.typeIs ?_)
  refine wpAny_pure ?_
  refine wpAny_bind (wpAny_isInstance (T := "dict") db.typeIs PySem.F.sub_dict_dict ?_)
  simp only [Bool.not_true, Bool.false_eq_true, if_false]
  refine wpAny_bind (wpAny_pure (wpAny_bind (wpAny_pure ?_)))
  refine wpAny_bind (samePairsP ha hb da db hits ?_)
  refine wpAny_pure ⟨_, rfl, ?_, ?_⟩
  · exact fun x => nomatch x
  · simpa using h
end
section
variable {X : Cx}
/-- two dicts of the same keys, their values equal -/
def rNeDk (K : PySem.W.Frag) : R2 := fun x y H Q => ∃ a b ks ls n, n ≤ 60 ∧ x = .ref a ∧ y = .ref b ∧ H a = some (.dK ks) ∧ H b = some (.dK ls) ∧ ks.length = ls.length ∧ (∀ p ∈ ks, ∃ u, valV ls p.1 = some u ∧ EqV K H n p.2 u) ∧ Q (.bl false) H
theorem op_neDk {K : PySem.W.Frag} (hu : X.A.units + 64 < cLine) (hK : X.K = K := by rfl) : OpR X (compareOp .NotEq) (rNeDk K) := by
  subst hK
  intro pins s σ H x y v u Q I rx ry h
  obtain ⟨a, b, ks, ls, n, hn, rfl, rfl, ea, eb, hl, hp, q⟩ := h
  cases (show v = Value.ref a from rx)
  cases (show u = Value.ref b from ry)
  obtain ⟨_, ya, va, ra, da⟩ := (show ObjOk X.prog X.w H s.heap a (.dK ks) from I.hok a _ ea)
  obtain ⟨_, yb, vb, rb, db⟩ := (show ObjOk X.prog X.w H s.heap b (.dK ls) from I.hok b _ eb)
  have e : va.length = vb.length := by rw [← ra.length, ← rb.length]; exact hl
  refine ne_dicts (r := true) ya yb da db (by omega) (fun _ => hits_run (eqV_run I n X.A.in1 (by show X.A.units + 1 + n < cLine; omega)) rb ra hp) ⟨.bl false, H, I, ?_, q⟩
  show Value.bool _ = Value.bool false
  rw [e]
  simp
end
section
variable {H I I0 : Hp} {M : List (Addr × HO)} {Z : List (Addr × HO) → Prop} {p : Addr} {o : HO}
def cut1 (I : Hp) (p : Addr) : Hp := fun b => if b = p then none else I b
theorem cut1_same : cut1 I p p = none := if_pos rfl
theorem cut1_ne {b : Addr} (h : b ≠ p) : cut1 I p b = I b := if_neg h
theorem Same.cut (e : Same I0 I) (h : I0 p = none) : Same I0 (cut1 I p) := fun b x hb => by
  have : b ≠ p := fun z => by rw [z, h] at hb; cases hb
  rw [cut1_ne this]
  exact e _ _ hb
/-- what stood still is owned -/
theorem Own.thaw (S : Own H I M Z) (h : I p = some o) : Own H (cut1 I p) ((p, o) :: M) Z := by
  have e : Same (cut1 I p) I := fun b x hb => by
    by_cases z : b = p
    · rw [z, cut1_same] at hb; cases hb
    · rwa [cut1_ne z] at hb
  obtain ⟨N, z, S⟩ := S
  have hnp : ∀ q ∈ M ++ N, q.1 ≠ p := fun q hq ep => by
    have := (S.cel q hq).2
    rw [ep, h] at this
    cases this
  refine ⟨N, z, e.trans S.imm, fun q hq => ?_, ?_⟩
  · rcases List.mem_cons.mp hq with rfl | hq
    · exact ⟨S.imm _ _ h, cut1_same⟩
    · exact ⟨(S.cel q hq).1, e.free (S.cel q hq).2⟩
  · show (((p, o) :: (M ++ N)).map (·.1)).Nodup
    rw [List.map_cons]
    refine List.nodup_cons.mpr ⟨fun hx => ?_, S.nd⟩
    obtain ⟨q, hq, eq⟩ := List.mem_map.mp hx
    exact hnp q hq eq
end
end Dz

/-! Orders under other names: the mathematics. -/
namespace Dz
open PySem L2
def mapE (f : Str → Str) : Except (List Str) (List Str) → Except (List Str) (List Str)
  | .ok l => .ok (l.map f)
  | .error l => .error (l.map f)
section
variable {f : Str → Str} {p : Str → Prop}
theorem mem_mapI (hf : ∀ a b, p a → p b → f a = f b → a = b) {x : Str} {l : List Str} (hx : p x) (hl : ∀ y ∈ l, p y) : f x ∈ l.map f ↔ x ∈ l :=
  ⟨fun h => by
    obtain ⟨y, hy, e⟩ := List.mem_map.mp h
    have := hf y x (hl y hy) hx e
    exact this ▸ hy, fun h => List.mem_map_of_mem h⟩
theorem head_map {r : List Str} (h : r ≠ []) : (r.map f).headD "" = f (r.headD "") := by
  cases r with
  | nil => exact absurd rfl h
  | cons a t => rfl
theorem stands_map (hf : ∀ a b, p a → p b → f a = f b → a = b) {x : Str} (hx : p x) : ∀ {rows : List (List Str)}, (∀ r ∈ rows, ∀ y ∈ r, p y) → standsB (f x) (rows.map (List.map f)) = standsB x rows
  | [], _ => rfl
  | r :: t, h => by
    have ih : (t.map (List.map f)).any (fun r => decide (f x ∈ r.drop 1)) = t.any (fun r => decide (x ∈ r.drop 1)) := stands_map hf hx (rows := t) fun r hr => h r (List.mem_cons_of_mem _ hr)
    show (decide (f x ∈ (r.map f).drop 1) || (t.map (List.map f)).any (fun r => decide (f x ∈ r.drop 1))) = (decide (x ∈ r.drop 1) || t.any (fun r => decide (x ∈ r.drop 1)))
    rw [ih, ← List.map_drop]
    have : decide (f x ∈ (r.drop 1).map f) = decide (x ∈ r.drop 1) := decide_eq_decide.mpr (mem_mapI hf hx fun y hy => h r (List.mem_cons_self ..) y (List.mem_of_mem_drop hy))
    rw [this]
theorem cut_map (hf : ∀ a b, p a → p b → f a = f b → a = b) {x : Str} (hx : p x) {r : List Str} (hr : r ≠ []) (h : ∀ y ∈ r, p y) : cutHead (f x) (r.map f) = (cutHead x r).map f := by
  unfold cutHead
  rw [head_map hr]
  by_cases e : r.headD "" = x
  · rw [if_pos e, if_pos (by rw [e]), List.map_drop]
  · rw [if_neg e, if_neg (fun q => e (hf _ _ (h _ (head_in hr)) hx q))]
theorem without_map (hf : ∀ a b, p a → p b → f a = f b → a = b) {x : Str} (hx : p x) : ∀ {rows : List (List Str)}, (∀ r ∈ rows, r ≠ []) → (∀ r ∈ rows, ∀ y ∈ r, p y) → withoutL (rows.map (List.map f)) (f x) = (withoutL rows x).map (List.map f)
  | [], _, _ => rfl
  | r :: t, hn, h => by
    have ih := without_map hf hx (rows := t) (fun r hr => hn r (List.mem_cons_of_mem _ hr)) fun r hr => h r (List.mem_cons_of_mem _ hr)
    unfold withoutL at ih ⊢
    rw [List.map_cons, List.map_cons, List.map_cons, cut_map hf hx (hn r (List.mem_cons_self ..)) (h r (List.mem_cons_self ..)), List.filter_cons, List.filter_cons]
    cases e : cutHead x r with
    | nil => exact ih
    | cons a u => exact congrArg (List.cons ((a :: u).map f)) ih
theorem heads_map (hf : ∀ a b, p a → p b → f a = f b → a = b) {rows : List (List Str)} (hn : ∀ r ∈ rows, r ≠ []) (h : ∀ r ∈ rows, ∀ y ∈ r, p y) : headsL (rows.map (List.map f)) = (headsL rows).map f := by
  have go : ∀ (rows : List (List Str)) (acc : List Str), (∀ r ∈ rows, r ≠ []) → (∀ r ∈ rows, ∀ y ∈ r, p y) → (∀ y ∈ acc, p y) →
      (rows.map (List.map f)).foldl (fun acc r => if r.headD "" ∈ acc then acc else acc ++ [r.headD ""]) (acc.map f) = (rows.foldl (fun acc r => if r.headD "" ∈ acc then acc else acc ++ [r.headD ""]) acc).map f := fun rows => by
    induction rows with
    | nil => intro acc _ _ _; rfl
    | cons r t ih =>
      intro acc hn h ha
      have h0 := hn r (List.mem_cons_self ..)
      have h1 := h r (List.mem_cons_self ..) _ (head_in h0)
      rw [List.map_cons, List.foldl_cons, List.foldl_cons, head_map h0]
      by_cases e : r.headD "" ∈ acc
      · rw [if_pos e, if_pos ((mem_mapI hf h1 ha).mpr e)]
        exact ih acc (fun r hr => hn r (List.mem_cons_of_mem _ hr)) (fun r hr => h r (List.mem_cons_of_mem _ hr)) ha
      · rw [if_neg e, if_neg (fun q => e ((mem_mapI hf h1 ha).mp q))]
        have := ih (acc ++ [r.headD ""]) (fun r hr => hn r (List.mem_cons_of_mem _ hr)) (fun r hr => h r (List.mem_cons_of_mem _ hr)) (fun y hy => (List.mem_append.mp hy).elim (ha y) fun q => by rw [List.mem_singleton.mp q]; exact h1)
        rw [List.map_append] at this
        exact this
  exact go rows [] hn h fun _ q => by cases q
theorem free_map (hf : ∀ a b, p a → p b → f a = f b → a = b) {rows : List (List Str)} (hn : ∀ r ∈ rows, r ≠ []) (h : ∀ r ∈ rows, ∀ y ∈ r, p y) : freeL (rows.map (List.map f)) = (freeL rows).map f := by
  unfold freeL
  have go : ∀ (t : List (List Str)), (∀ r ∈ t, r ∈ rows) → (t.map (List.map f)).find? (fun r => !standsB (r.headD "") (rows.map (List.map f))) = (t.find? fun r => !standsB (r.headD "") rows).map (List.map f) := fun t => by
    induction t with
    | nil => intro _; rfl
    | cons r t ih =>
      intro ht
      have hr := ht r (List.mem_cons_self ..)
      rw [List.map_cons, List.find?_cons, List.find?_cons, head_map (hn r hr), stands_map hf (h r hr _ (head_in (hn r hr))) h]
      cases standsB (r.headD "") rows with
      | false => rfl
      | true => exact ih fun r hr => ht r (List.mem_cons_of_mem _ hr)
  rw [go rows fun r hr => hr]
  cases e : rows.find? (fun r => !standsB (r.headD "") rows) with
  | none => rfl
  | some r =>
    show some ((r.map f).headD "") = some (f (r.headD ""))
    rw [head_map (hn r (List.mem_of_find?_eq_some e))]
theorem mergeP_map (hf : ∀ a b, p a → p b → f a = f b → a = b) : ∀ (n : Nat) (rows : List (List Str)), (∀ r ∈ rows, r ≠ []) → (∀ r ∈ rows, ∀ y ∈ r, p y) → mergeP n (rows.map (List.map f)) = mapE f (mergeP n rows)
  | 0, _, _, _ => rfl
  | n + 1, rows, hn, h => by
    unfold mergeP
    by_cases e : rows = []
    · rw [if_pos e, e]
      rfl
    rw [if_neg e, if_neg (by simpa using e), free_map hf hn h]
    cases ef : freeL rows with
    | none =>
      show Except.error (headsL (rows.map (List.map f))) = Except.error ((headsL rows).map f)
      rw [heads_map hf hn h]
    | some x =>
      obtain ⟨r, hr, er⟩ := free_mem ef
      have hx : p x := er ▸ h r hr _ (head_in (hn r hr))
      dsimp only [Option.map]
      rw [without_map hf hx hn h, mergeP_map hf n _ (without_ne rows x) fun q hq y hy => by
        obtain ⟨q2, hq2, hs⟩ := without_sub q hq
        exact h q2 hq2 y (hs y hy)]
      cases mergeP n (withoutL rows x) with
      | ok l => rfl
      | error l => rfl
theorem mergeL_map (hf : ∀ a b, p a → p b → f a = f b → a = b) {rows : List (List Str)} (h : ∀ r ∈ rows, ∀ y ∈ r, p y) : mergeL (rows.map (List.map f)) = mapE f (mergeL rows) := by
  have e1 : ∀ rows : List (List Str), (rows.map (List.map f)).filter (fun r => !r.isEmpty) = (rows.filter fun r => !r.isEmpty).map (List.map f) := fun rows => by
    induction rows with
    | nil => rfl
    | cons r t ih =>
      rw [List.map_cons, List.filter_cons, List.filter_cons]
      cases r with
      | nil => exact ih
      | cons a u => exact congrArg (List.cons ((a :: u).map f)) ih
  have e2 : ∀ rows : List (List Str), sumL (rows.map (List.map f)) = sumL rows := fun rows => by
    induction rows with
    | nil => rfl
    | cons r t ih =>
      unfold sumL at ih ⊢
      rw [List.map_cons, List.map_cons, List.map_cons, List.sum_cons, List.sum_cons, ih, List.length_map]
  unfold mergeL
  rw [e1, e2]
  exact mergeP_map hf _ _ (filt_ne rows) fun r hr => h r (List.mem_filter.mp hr).1
theorem rowsP_map {F G : Str → Except (List Str) (List Str)} : ∀ {l : List Str}, (∀ b ∈ l, G (f b) = mapE f (F b)) → rowsP G (l.map f) = (match rowsP F l with | .ok ls => .ok (ls.map (List.map f)) | .error z => .error (z.map f))
  | [], _ => rfl
  | b :: r, h => by
    rw [List.map_cons, rowsP, rowsP, h b (List.mem_cons_self ..), rowsP_map fun b hb => h b (List.mem_cons_of_mem _ hb)]
    cases F b with
    | error z => rfl
    | ok l0 =>
      dsimp only [mapE]
      cases rowsP F r with
      | error z => rfl
      | ok ls => rfl
/-- the order of a class under other names, with classes beside it -/
theorem ordL_map {L L' : Ords} {rk rk' : Str → Nat} (T : TblOk L rk) (T' : TblOk L' rk') (hf : ∀ a ∈ L.map (·.1), ∀ b ∈ L.map (·.1), f a = f b → a = b)
    (hin : ∀ x ∈ L.map (·.1), f x ∈ L'.map (·.1) ∧ lookO L' (f x) = (lookO L x).map f) : ∀ (n : Nat) (x : Str), rk x < n → x ∈ L.map (·.1) → ordL L' rk' (f x) = mapE f (ordL L rk x)
  | 0, _, h, _ => absurd h (Nat.not_lt_zero _)
  | n + 1, x, h, hx => by
    have hf' : ∀ a b, a ∈ L.map (·.1) → b ∈ L.map (·.1) → f a = f b → a = b := fun a b ha hb => hf a ha b hb
    rw [ordL_eq T hx, ordL_eq T' (hin x hx).1, (hin x hx).2]
    have hb : ∀ b ∈ lookO L x, ordL L' rk' (f b) = mapE f (ordL L rk b) := fun b hb => ordL_map T T' hf hin n b (by have := (T.up x hx b hb).2; omega) (T.up x hx b hb).1
    rw [rowsP_map hb]
    cases e : rowsP (ordL L rk) (lookO L x) with
    | error z => rfl
    | ok ls =>
      dsimp only
      have hall : ∀ r ∈ ls ++ [lookO L x], ∀ y ∈ r, y ∈ L.map (·.1) := fun r hr => by
        rcases List.mem_append.mp hr with hr | hr
        · exact rowsP_all e (p := fun r => ∀ y ∈ r, y ∈ L.map (·.1)) (fun b hb r hr y hy => ((ordL_in T (rk b + 1) b (Nat.lt_succ_self _) (T.up x hx b hb).1 r hr).2 y hy).1) r hr
        · rw [List.mem_singleton.mp hr]
          exact fun y hy => (T.up x hx y hy).1
      have em := mergeL_map hf' hall
      rw [List.map_append] at em
      rw [show [List.map f (lookO L x)] = [lookO L x].map (List.map f) from rfl, em]
      cases mergeL (ls ++ [lookO L x]) with
      | ok l => rfl
      | error l => rfl
end
end Dz

/-! Tables of bases that are drawn: the mathematics. -/
namespace Dz
open PySem L2
/-! ### the heads of what is barred -/
theorem heads_ok (rows : List (List Str)) (hn : ∀ r ∈ rows, r ≠ []) : (headsL rows).Nodup ∧ ∀ y ∈ headsL rows, ∃ r ∈ rows, y ∈ r := by
  have go : ∀ (t : List (List Str)) (acc : List Str), (∀ r ∈ t, r ∈ rows) → acc.Nodup → (∀ y ∈ acc, ∃ r ∈ rows, y ∈ r) →
      (t.foldl (fun acc r => if r.headD "" ∈ acc then acc else acc ++ [r.headD ""]) acc).Nodup ∧ ∀ y ∈ t.foldl (fun acc r => if r.headD "" ∈ acc then acc else acc ++ [r.headD ""]) acc, ∃ r ∈ rows, y ∈ r := fun t => by
    induction t with
    | nil => intro acc _ h1 h2; exact ⟨h1, h2⟩
    | cons r t ih =>
      intro acc ht h1 h2
      rw [List.foldl_cons]
      have hr := ht r (List.mem_cons_self ..)
      by_cases e : r.headD "" ∈ acc
      · rw [if_pos e]
        exact ih acc (fun r hr => ht r (List.mem_cons_of_mem _ hr)) h1 h2
      · rw [if_neg e]
        refine ih _ (fun r hr => ht r (List.mem_cons_of_mem _ hr)) (List.nodup_append.mpr ⟨h1, by simp, fun a ha b hb q => ?_⟩) fun y hy => ?_
        · rw [List.mem_singleton.mp hb] at q
          exact e (q ▸ ha)
        · rcases List.mem_append.mp hy with hy | hy
          · exact h2 y hy
          · rw [List.mem_singleton.mp hy]
            exact ⟨r, hr, head_in (hn r hr)⟩
  exact go rows [] (fun r hr => hr) List.nodup_nil fun y hy => by cases hy
theorem mergeP_err : ∀ (n : Nat) (rows : List (List Str)) (l : List Str), (∀ r ∈ rows, r ≠ []) → mergeP n rows = .error l → l.Nodup ∧ ∀ y ∈ l, ∃ r ∈ rows, y ∈ r
  | 0, _, l, _, h => by cases h
  | n + 1, rows, l, hne, h => by
    unfold mergeP at h
    split at h
    · cases h
    · cases e : freeL rows with
      | none =>
        rw [e] at h
        cases h
        exact heads_ok rows hne
      | some x =>
        rw [e] at h
        dsimp only at h
        cases em : mergeP n (withoutL rows x) with
        | ok z => rw [em] at h; cases h
        | error m =>
          rw [em] at h
          cases h
          obtain ⟨h1, h2⟩ := mergeP_err n _ l (without_ne rows x) em
          exact ⟨h1, fun y hy => by
            obtain ⟨r, hr, h3⟩ := h2 y hy
            obtain ⟨q, hq, h4⟩ := without_sub r hr
            exact ⟨q, hq, h4 y h3⟩⟩
theorem mergeL_err {rows : List (List Str)} {l : List Str} (h : mergeL rows = .error l) : l.Nodup ∧ ∀ y ∈ l, ∃ r ∈ rows, y ∈ r :=
  ⟨(mergeP_err _ _ l (filt_ne rows) h).1, fun y hy => by
    obtain ⟨r, hr, h2⟩ := (mergeP_err _ _ l (filt_ne rows) h).2 y hy
    exact ⟨r, (List.mem_filter.mp hr).1, h2⟩⟩
theorem rowsP_bad {f : Str → Except (List Str) (List Str)} : ∀ {l : List Str} {z : List Str}, rowsP f l = .error z → ∃ b ∈ l, f b = .error z
  | [], z, h => by cases h
  | b :: t, z, h => by
    rw [rowsP] at h
    cases e : f b with
    | error y =>
      rw [e] at h
      cases h
      exact ⟨b, List.mem_cons_self .., e⟩
    | ok l0 =>
      rw [e] at h
      dsimp only at h
      cases e2 : rowsP f t with
      | error y =>
        rw [e2] at h
        cases h
        obtain ⟨c, hc, h⟩ := rowsP_bad e2
        exact ⟨c, List.mem_cons_of_mem _ hc, h⟩
      | ok l1 => rw [e2] at h; cases h
theorem ordL_err {L : Ords} {rk : Str → Nat} (T : TblOk L rk) : ∀ (n : Nat) (x : Str), rk x < n → x ∈ L.map (·.1) → ∀ l, ordL L rk x = .error l → l.Nodup ∧ ∀ y ∈ l, y ∈ L.map (·.1)
  | 0, _, h, _, _, _ => absurd h (Nat.not_lt_zero _)
  | n + 1, x, h, hx, l, e => by
    rw [ordL_eq T hx] at e
    cases er : rowsP (ordL L rk) (lookO L x) with
    | error z =>
      rw [er] at e
      cases e
      obtain ⟨b, hb, hz⟩ := rowsP_bad er
      have := T.up x hx b hb
      exact ordL_err T n b (by omega) this.1 l hz
    | ok ls =>
      rw [er] at e
      dsimp only at e
      cases em : mergeL (ls ++ [lookO L x]) with
      | ok z => rw [em] at e; cases e
      | error z =>
        rw [em] at e
        cases e
        obtain ⟨h1, h2⟩ := mergeL_err em
        refine ⟨h1, fun y hy => ?_⟩
        obtain ⟨r, hr, hyr⟩ := h2 y hy
        rcases List.mem_append.mp hr with hr | hr
        · exact rowsP_all er (p := fun r => ∀ y ∈ r, y ∈ L.map (·.1)) (fun b hb r hr y hy => ((ordL_in T (rk b + 1) b (Nat.lt_succ_self _) (T.up x hx b hb).1 r hr).2 y hy).1) r hr y hyr
        · rw [List.mem_singleton.mp hr] at hyr
          exact (T.up x hx y hyr).1
/-- what is told of a class: names of the table, few -/
theorem ansL_in {L : Ords} {rk : Str → Nat} (T : TblOk L rk) {x : Str} (hx : x ∈ L.map (·.1)) : (∀ y ∈ (ansL (ordL L rk x)).2, y ∈ L.map (·.1)) ∧ (ansL (ordL L rk x)).2.length ≤ 40 := by
  have h : (ansL (ordL L rk x)).2.Nodup ∧ ∀ y ∈ (ansL (ordL L rk x)).2, y ∈ L.map (·.1) := by
    cases e : ordL L rk x with
    | ok l =>
      obtain ⟨h1, h2⟩ := ordL_in T (rk x + 1) x (Nat.lt_succ_self _) hx l e
      exact ⟨h1, fun y hy => (h2 y hy).1⟩
    | error l => exact ordL_err T (rk x + 1) x (Nat.lt_succ_self _) hx l e
  refine ⟨h.2, ?_⟩
  have := nodup_le' h.1 h.2
  rw [List.length_map] at this
  have := T.siz
  omega

/-! ### rows that are drawn, and the same under other names -/
structure RowsIn (R : Ords) : Prop where
  hi : R.length ≤ 9
  nd : (R.map (·.1)).Nodup
  few : ∀ p ∈ R, p.2.length ≤ 3
  up : ∀ (i : Nat) (p : Str × List Str), R[i]? = some p → ∀ b ∈ p.2, b ∈ (R.map (·.1)).take i
def rkL (ns : List Str) (x : Str) : Nat := ns.idxOf x
theorem idx_of {ns : List Str} (hn : ns.Nodup) {i : Nat} {x : Str} (h : ns[i]? = some x) : ns.idxOf x = i := by
  obtain ⟨hi, e⟩ := List.getElem?_eq_some_iff.mp h
  rw [← e]
  exact hn.idxOf_getElem i hi
theorem idx_take {ns : List Str} {i : Nat} {x : Str} (h : x ∈ ns.take i) : ns.idxOf x < i := by
  have e : ns = ns.take i ++ ns.drop i := (List.take_append_drop i ns).symm
  have h1 : ns.idxOf x = (ns.take i).idxOf x := by
    conv => lhs; rw [e, List.idxOf_append, if_pos h]
  have h2 := List.idxOf_lt_length_of_mem h
  rw [h1]
  rw [List.length_take] at h2
  omega
theorem mem_at {R : Ords} {x : Str} (h : x ∈ R.map (·.1)) : ∃ (i : Nat) (p : Str × List Str), R[i]? = some p ∧ p.1 = x := by
  obtain ⟨p, hp, rfl⟩ := List.mem_map.mp h
  obtain ⟨i, hi⟩ := List.getElem?_of_mem hp
  exact ⟨i, p, hi, rfl⟩
theorem RowsIn.tbl {R : Ords} (h : RowsIn R) : TblOk R (rkL (R.map (·.1))) where
  nd := h.nd
  up := fun x hx b hb => by
    obtain ⟨i, p, hp, rfl⟩ := mem_at hx
    rw [lookO_at h.nd (show (p.1, p.2) ∈ R from List.mem_of_getElem? hp)] at hb
    have hb2 := h.up i p hp b hb
    refine ⟨List.mem_of_mem_take hb2, ?_⟩
    unfold rkL
    rw [idx_of h.nd (i := i) (x := p.1) (by rw [List.getElem?_map, hp]; rfl)]
    exact idx_take hb2
  few := fun x hx => by
    obtain ⟨i, p, hp, rfl⟩ := mem_at hx
    have hm := List.mem_of_getElem? hp
    rw [lookO_at h.nd (show (p.1, p.2) ∈ R from hm)]
    exact Nat.le_trans (h.few p hm) (by decide)
  bnd := fun x hx => by
    have := List.idxOf_lt_length_of_mem hx
    have h9 := h.hi
    rw [List.length_map] at this
    unfold rkL
    omega
  siz := Nat.le_trans h.hi (by decide)
/-- the other name: at the same place -/
def fOf (ns zs : List Str) (x : Str) : Str := zs.getD (ns.idxOf x) ""
theorem fOf_at {ns zs : List Str} (hn : ns.Nodup) {i : Nat} {x : Str} (h : ns[i]? = some x) : fOf ns zs x = zs.getD i "" := by
  unfold fOf
  rw [idx_of hn h]
theorem fOf_get {ns zs : List Str} (hn : ns.Nodup) (hl : zs.length = ns.length) {i : Nat} {x : Str} (h : ns[i]? = some x) : zs[i]? = some (fOf ns zs x) := by
  obtain ⟨hi, _⟩ := List.getElem?_eq_some_iff.mp h
  rw [fOf_at hn h, List.getD_eq_getElem?_getD, List.getElem?_eq_getElem (by omega)]
  rfl
theorem fOf_inj {ns zs : List Str} (hn : ns.Nodup) (hz : zs.Nodup) (hl : zs.length = ns.length) : ∀ a ∈ ns, ∀ b ∈ ns, fOf ns zs a = fOf ns zs b → a = b := fun a ha b hb e => by
  obtain ⟨i, hi⟩ := List.getElem?_of_mem ha
  obtain ⟨j, hj⟩ := List.getElem?_of_mem hb
  have h1 := fOf_get hn hl hi
  have h2 := fOf_get hn hl hj
  rw [← e] at h2
  have : i = j := (idx_of hz h1).symm.trans (idx_of hz h2)
  rw [this, hj] at hi
  exact (Option.some.inj hi).symm
theorem fOf_mem {ns zs : List Str} (hn : ns.Nodup) (hl : zs.length = ns.length) {x : Str} (h : x ∈ ns) : fOf ns zs x ∈ zs := by
  obtain ⟨i, hi⟩ := List.getElem?_of_mem h
  exact List.mem_of_getElem? (fOf_get hn hl hi)
theorem fOf_take {ns zs : List Str} (hn : ns.Nodup) (hl : zs.length = ns.length) {i : Nat} {x : Str} (h : x ∈ ns.take i) : fOf ns zs x ∈ zs.take i := by
  obtain ⟨j, hj⟩ := List.getElem?_of_mem h
  obtain ⟨hjl, _⟩ := List.getElem?_eq_some_iff.mp hj
  rw [List.length_take] at hjl
  have hj2 : ns[j]? = some x := by
    rw [List.getElem?_take_of_lt (by omega)] at hj
    exact hj
  refine List.mem_of_getElem? (i := j) ?_
  rw [List.getElem?_take_of_lt (by omega)]
  exact fOf_get hn hl hj2
def renP (f : Str → Str) (p : Str × List Str) : Str × List Str := (f p.1, p.2.map f)
/-- the rows under other names, with k more among them -/
structure OtherIn (R : Ords) (zs : List Str) (mo : Nat → Str) (k : Nat) (O : Ords) : Prop where
  nd : (O.map (·.1)).Nodup
  has : ∀ p ∈ R, renP (fOf (R.map (·.1)) zs) p ∈ O
  only : ∀ p ∈ O, (∃ q ∈ R, p = renP (fOf (R.map (·.1)) zs) q) ∨ (∃ j, j < k ∧ p.1 = mo j ∧ p.2.length ≤ 4 ∧ ∀ b ∈ p.2, ∃ q ∈ R, b = fOf (R.map (·.1)) zs q.1)
  len : O.length = R.length + k
theorem OtherIn.start {R : Ords} {zs : List Str} {mo : Nat → Str} (h : RowsIn R) (hz : zs.Nodup) (hl : zs.length = R.length) : OtherIn R zs mo 0 (R.map (renP (fOf (R.map (·.1)) zs))) where
  nd := by
    have e : (R.map (renP (fOf (R.map (·.1)) zs))).map (·.1) = (R.map (·.1)).map (fOf (R.map (·.1)) zs) := by
      rw [List.map_map, List.map_map]
      rfl
    rw [e]
    refine List.pairwise_map.mpr (h.nd.imp_of_mem fun ha hb hne e => hne ?_)
    exact fOf_inj h.nd hz (by rw [List.length_map]; exact hl) _ ha _ hb e
  has := fun p hp => List.mem_map.mpr ⟨p, hp, rfl⟩
  only := fun p hp => by
    obtain ⟨q, hq, rfl⟩ := List.mem_map.mp hp
    exact .inl ⟨q, hq, rfl⟩
  len := by rw [List.length_map, Nat.add_zero]
theorem OtherIn.more {R : Ords} {zs : List Str} {mo : Nat → Str} {k : Nat} {O : Ords} (h : OtherIn R zs mo k O) (hR : RowsIn R) (hl : zs.length = R.length) (hm : ∀ i < k, mo i ≠ mo k) (hzm : mo k ∉ zs) {at_ : Nat} {bs : List Str} (hb : bs.length ≤ 4)
    (hbs : ∀ b ∈ bs, ∃ q ∈ R, b = fOf (R.map (·.1)) zs q.1) : OtherIn R zs mo (k + 1) (O.take at_ ++ [(mo k, bs)] ++ O.drop at_) := by
  have pm : (O.take at_ ++ [(mo k, bs)] ++ O.drop at_).Perm ((mo k, bs) :: O) := by
    rw [List.append_assoc, List.singleton_append]
    have := List.perm_middle (a := (mo k, bs)) (l₁ := O.take at_) (l₂ := O.drop at_)
    rwa [List.take_append_drop] at this
  refine ⟨?_, fun p hp => pm.mem_iff.mpr (List.mem_cons_of_mem _ (h.has p hp)), fun p hp => ?_, ?_⟩
  · refine (pm.map (·.1)).nodup_iff.mpr ?_
    rw [List.map_cons]
    refine List.nodup_cons.mpr ⟨fun hx => ?_, h.nd⟩
    obtain ⟨p, hp, e⟩ := List.mem_map.mp hx
    have e : p.1 = mo k := e
    rcases h.only p hp with ⟨q, hq, rfl⟩ | ⟨j, hj, e2, _⟩
    · refine hzm ?_
      rw [← e]
      exact fOf_mem hR.nd (by rw [List.length_map]; exact hl) (List.mem_map_of_mem hq)
    · exact hm j hj (e2.symm.trans e)
  · rcases List.mem_cons.mp (pm.mem_iff.mp hp) with rfl | hp
    · exact .inr ⟨k, Nat.lt_succ_self _, rfl, hb, hbs⟩
    · rcases h.only p hp with hh | ⟨j, hj, hh⟩
      · exact .inl hh
      · exact .inr ⟨j, Nat.lt_succ_of_lt hj, hh⟩
  · rw [pm.length_eq, List.length_cons, h.len]
    omega
theorem OtherIn.tbl {R : Ords} {zs : List Str} {mo : Nat → Str} {k : Nat} {O : Ords} (h : OtherIn R zs mo k O) (hR : RowsIn R) (hz : zs.Nodup) (hl : zs.length = R.length) (hzm : ∀ i < k, mo i ∉ zs) (hk : k ≤ 9) : TblOk O.reverse (rkL zs) := by
  have hn : (O.reverse.map (·.1)).Nodup := by
    rw [List.map_reverse]
    exact (List.reverse_perm _).nodup_iff.mpr h.nd
  have hl' : zs.length = (R.map (·.1)).length := by rw [List.length_map]; exact hl
  have key : ∀ x ∈ O.reverse.map (·.1), ∃ p ∈ O, p.1 = x ∧ lookO O.reverse x = p.2 := fun x hx => by
    obtain ⟨p, hp, rfl⟩ := List.mem_map.mp hx
    exact ⟨p, List.mem_reverse.mp hp, rfl, lookO_at hn (show (p.1, p.2) ∈ O.reverse from hp)⟩
  have inO : ∀ q ∈ R, fOf (R.map (·.1)) zs q.1 ∈ O.reverse.map (·.1) := fun q hq => List.mem_map.mpr ⟨_, List.mem_reverse.mpr (h.has q hq), rfl⟩
  refine ⟨hn, fun x hx b hb => ?_, fun x hx => ?_, fun x hx => ?_, ?_⟩
  · obtain ⟨p, hp, rfl, el⟩ := key x hx
    rw [el] at hb
    rcases h.only p hp with ⟨q, hq, rfl⟩ | ⟨j, hj, e, h4, hbs⟩
    · obtain ⟨c, hc, rfl⟩ := List.mem_map.mp hb
      obtain ⟨i, hi⟩ := List.getElem?_of_mem hq
      have hc2 := hR.up i q hi c hc
      obtain ⟨q2, hq2, e2⟩ := List.mem_map.mp (List.mem_of_mem_take hc2)
      refine ⟨by rw [← e2]; exact inO q2 hq2, ?_⟩
      unfold rkL
      have h1 : zs.idxOf (fOf (R.map (·.1)) zs q.1) = i := idx_of hz (fOf_get hR.nd hl' (by rw [List.getElem?_map, hi]; rfl))
      show zs.idxOf _ < zs.idxOf (fOf (R.map (·.1)) zs q.1)
      rw [h1]
      exact idx_take (fOf_take hR.nd hl' hc2)
    · obtain ⟨q, hq, rfl⟩ := hbs b hb
      refine ⟨inO q hq, ?_⟩
      unfold rkL
      rw [e, List.idxOf_eq_length (hzm j hj)]
      exact List.idxOf_lt_length_of_mem (fOf_mem hR.nd hl' (List.mem_map_of_mem hq))
  · obtain ⟨p, hp, rfl, el⟩ := key x hx
    rw [el]
    rcases h.only p hp with ⟨q, hq, rfl⟩ | ⟨j, hj, e, h4, hbs⟩
    · show (q.2.map _).length ≤ 4
      rw [List.length_map]
      exact Nat.le_trans (hR.few q hq) (by decide)
    · exact h4
  · have h1 : zs.idxOf x ≤ zs.length := List.idxOf_le_length
    have h9 := hR.hi
    unfold rkL
    omega
  · have h9 := hR.hi
    rw [List.length_reverse, h.len]
    omega
/-- the promise: the order under other names is the order, its names changed -/
theorem OtherIn.same {R : Ords} {zs : List Str} {mo : Nat → Str} {k : Nat} {O : Ords} (h : OtherIn R zs mo k O) (hR : RowsIn R) (hz : zs.Nodup) (hl : zs.length = R.length) (hzm : ∀ i < k, mo i ∉ zs) (hk : k ≤ 9) {x : Str} (hx : x ∈ R.map (·.1)) :
    fOf (R.map (·.1)) zs x ∈ O.reverse.map (·.1) ∧ ansL (ordL O.reverse (rkL zs) (fOf (R.map (·.1)) zs x)) = ((ansL (ordL R (rkL (R.map (·.1))) x)).1, (ansL (ordL R (rkL (R.map (·.1))) x)).2.map (fOf (R.map (·.1)) zs)) := by
  have T := hR.tbl
  have T' := h.tbl hR hz hl hzm hk
  have hl' : zs.length = (R.map (·.1)).length := by rw [List.length_map]; exact hl
  have hin : ∀ x ∈ R.map (·.1), fOf (R.map (·.1)) zs x ∈ O.reverse.map (·.1) ∧ lookO O.reverse (fOf (R.map (·.1)) zs x) = (lookO R x).map (fOf (R.map (·.1)) zs) := fun x hx => by
    have hm := lookO_mem hx
    have h2 := h.has _ hm
    refine ⟨List.mem_map.mpr ⟨_, List.mem_reverse.mpr h2, rfl⟩, ?_⟩
    exact lookO_at T'.nd (show (fOf (R.map (·.1)) zs x, (lookO R x).map (fOf (R.map (·.1)) zs)) ∈ O.reverse from List.mem_reverse.mpr h2)
  refine ⟨(hin x hx).1, ?_⟩
  rw [ordL_map T T' (fOf_inj hR.nd hz hl') hin (rkL (R.map (·.1)) x + 1) x (Nat.lt_succ_self _) hx]
  cases ordL R (rkL (R.map (·.1))) x with
  | ok l => rfl
  | error l => rfl
end Dz

/-! Dicts of texts, dicts of rows, names with numbers. -/
namespace Dz
open PySem L2
/-- a dict from names to names -/
structure DictS (kvs : List (Key × V)) (ns zs : List Str) : Prop where
  ks : kvs.map (·.1) = ns.map Sum.inr
  vs : kvs.map (·.2) = zs.map V.str
theorem DictS.len {kvs : List (Key × V)} {ns zs : List Str} (h : DictS kvs ns zs) : kvs.length = ns.length := by
  have := congrArg List.length h.ks
  simpa using this
theorem DictS.none {kvs : List (Key × V)} {ns zs : List Str} {x : Str} (h : DictS kvs ns zs) (hn : x ∉ ns) : valV kvs (.inr x) = none := by
  cases e : valV kvs (.inr x) with
  | none => rfl
  | some v =>
    have := valV_in e
    rw [h.ks] at this
    obtain ⟨p, hp, q⟩ := List.mem_map.mp this
    exact absurd (Sum.inr.inj q ▸ hp) hn
theorem DictS.put {kvs : List (Key × V)} {ns zs : List Str} {x z : Str} (h : DictS kvs ns zs) (hn : x ∉ ns) : DictS (putK kvs (.inr x) (.str z)) (ns ++ [x]) (zs ++ [z]) := by
  rw [putK_new _ (h.none hn)]
  exact ⟨by rw [List.map_append, List.map_append, h.ks]; rfl, by rw [List.map_append, List.map_append, h.vs]; rfl⟩
theorem DictS.get : ∀ {kvs : List (Key × V)} {ns zs : List Str} {x : Str}, DictS kvs ns zs → x ∈ ns → valV kvs (.inr x) = some (.str (fOf ns zs x))
  | kvs, [], _, _, _, hx => by cases hx
  | [], n :: ns, _, _, h, _ => by have := h.ks; cases this
  | kv :: kvs, n :: ns, [], _, h, _ => by have := h.vs; cases this
  | kv :: kvs, n :: ns, z :: zs, x, h, hx => by
    obtain ⟨ks, vs⟩ := h
    rw [List.map_cons, List.map_cons, List.cons.injEq] at ks vs
    by_cases e : n = x
    · subst e
      rw [valV_pos ks.1, vs.1]
      unfold fOf
      rw [List.idxOf_cons_self]
      rfl
    · have hx2 : x ∈ ns := (List.mem_cons.mp hx).elim (fun q => absurd q.symm e) id
      rw [valV_neg (by rw [ks.1]; intro q; exact e (Sum.inr.inj q)), DictS.get ⟨ks.2, vs.2⟩ hx2]
      unfold fOf
      rw [List.idxOf_cons, show (n == x) = false from beq_eq_false_iff_ne.mpr e]
      rfl
theorem mergeK_nd : ∀ (kvs acc : List (Key × V)), ((acc ++ kvs).map (·.1)).Nodup → mergeK acc kvs = acc ++ kvs
  | [], acc, _ => by rw [List.append_nil]; rfl
  | kv :: kvs, acc, h => by
    have hn : valV acc kv.1 = none := by
      cases e : valV acc kv.1 with
      | none => rfl
      | some v =>
        have h1 := valV_in e
        rw [List.map_append] at h
        exact absurd rfl ((List.nodup_append.mp h).2.2 _ h1 _ (List.mem_map_of_mem (List.mem_cons_self ..)))
    have h2 : mergeK acc (kv :: kvs) = mergeK (acc ++ [kv]) kvs := by
      show mergeK (putK acc kv.1 kv.2) kvs = _
      rw [putK_new _ hn]
    rw [h2, mergeK_nd kvs (acc ++ [kv]) (by rw [List.append_assoc]; exact h), List.append_assoc]
    rfl
section
variable {K : PySem.W.Frag} {I : Hp}
theorem ok_listS {l : List Str} (h : ∀ x ∈ l, Enc.ok x = true) : Enc.ok l = true := by
  show l.all Enc.ok = true
  exact List.all_eq_true.mpr h
theorem mapO_succ {α β : Type} {f : α → β} : ∀ {l : List α} {i : Nat} {x : α}, l[i]? = some x → (l.take (i + 1)).map f = (l.take i).map f ++ [f x] := fun {l i x} h => by
  rw [List.take_succ, h]
  simp
theorem mapO_all {α β : Type} {f : α → β} {l : List α} : (l.take l.length).map f = l.map f := by rw [List.take_length]
theorem rps_pairs : ∀ {R : Ords} {vs : List V}, Rps K I vs R → ∃ (ps : List Addr) (kvs : List (Key × V)), vs = ps.map V.ref ∧ Paired (fun p kv => SqT K I p [kV kv.1, kv.2]) ps kvs ∧ kvs.map (·.1) = R.map (fun p => Sum.inr p.1) ∧ Rps K I (kvs.map (·.2)) (R.map (·.2))
  | [], vs, h => by
    rw [h.inv0]
    exact ⟨[], [], rfl, .nil, rfl, Rps.nil⟩
  | p :: R, vs, h => by
    obtain ⟨v, ws, rfl, r, rs⟩ := h.inv
    obtain ⟨ps, kvs, rfl, hp, hk, hv⟩ := rps_pairs rs
    obtain ⟨a, v1, v2, rfl, ht, r1, r2⟩ := r.pair
    obtain rfl := r1.str
    exact ⟨a :: ps, (.inr p.1, v2) :: kvs, rfl, .cons ht hp, by rw [List.map_cons, List.map_cons, hk], by rw [List.map_cons, List.map_cons]; exact Rps.cons r2 hv⟩
/-- dict(rows) -/
theorem rows_dict {H : Hp} {R : Ords} {vs : List V} (e : Same I H) (h : Rps K I vs R) (hn : (R.map (·.1)).Nodup) : ∃ (ps : List Addr) (kvs : List (Key × V)), vs = ps.map V.ref ∧ Paired (fun p kv => SqT K H p [kV kv.1, kv.2]) ps kvs ∧ mergeK [] kvs = kvs ∧ OrdsAt K I kvs R := by
  obtain ⟨ps, kvs, e1, hp, hk, hv⟩ := rps_pairs h
  refine ⟨ps, kvs, e1, Paired.mapP hp fun p kv z => Same.seqT e z, ?_, hk, hv⟩
  refine mergeK_nd kvs [] ?_
  rw [List.nil_append, hk]
  have : R.map (fun p => (Sum.inr p.1 : Key)) = (R.map (·.1)).map Sum.inr := by rw [List.map_map]; rfl
  rw [this]
  exact List.pairwise_map.mpr (hn.imp fun hne e => hne (Sum.inr.inj e))
end
/-! ### names with numbers -/
def dS (i : Nat) : Str := Str.ofString (toString (i : Int))
def zN (i : Nat) : Str := "z" ++ dS i
def moN (i : Nat) : Str := "more" ++ dS i
def aN (a i : Nat) : Str := (⟨#[a]⟩ : Str) ++ dS i
theorem dS_inj : ∀ i < 9, ∀ j < 9, sg (dS i) = sg (dS j) → i = j := by decide +kernel
theorem zN_inj : ∀ i < 9, ∀ j < 9, zN i = zN j → i = j := by decide +kernel
theorem moN_inj : ∀ i < 9, ∀ j < 9, moN i = moN j → i = j := by decide +kernel
theorem zN_moN : ∀ i < 9, ∀ j < 9, zN i ≠ moN j := by decide +kernel
theorem zN_ok : ∀ i < 9, Enc.ok (zN i) = true := by decide +kernel
theorem aN_inj {a b i j : Nat} (hi : i < 9) (hj : j < 9) (h : aN a i = aN b j) : i = j := by
  have h1 : sg (aN a i) = sg (aN b j) := by rw [h]
  unfold aN at h1
  rw [sg_app, sg_app, sg_one, sg_one] at h1
  exact dS_inj i hi j hj (List.cons.inj h1).2
theorem zN_nd (n : Nat) (hn : n ≤ 9) : ((List.range n).map zN).Nodup :=
  List.pairwise_map.mpr (List.nodup_range.imp_of_mem fun ha hb hne e => hne (zN_inj _ (by have := List.mem_range.mp ha; omega) _ (by have := List.mem_range.mp hb; omega) e))
/-- rows that are drawn, so far -/
structure Drawn (R : Ords) : Prop where
  hi : R.length ≤ 9
  nm : ∀ (i : Nat) (p : Str × List Str), R[i]? = some p → ∃ a, a ∈ [97, 98, 99] ∧ p.1 = aN a i
  few : ∀ p ∈ R, p.2.length ≤ 3
  up : ∀ (i : Nat) (p : Str × List Str), R[i]? = some p → ∀ b ∈ p.2, b ∈ (R.map (·.1)).take i
theorem aN_ok : ∀ a ∈ [97, 98, 99], ∀ i < 9, Enc.ok (aN a i) = true := by decide +kernel
theorem Drawn.oks {R : Ords} (h : Drawn R) {x : Str} (hx : x ∈ R.map (·.1)) : Enc.ok x = true := by
  obtain ⟨i, p, hp, rfl⟩ := mem_at hx
  obtain ⟨a, ha, e⟩ := h.nm i p hp
  rw [e]
  have h9 := h.hi
  have := (List.getElem?_eq_some_iff.mp hp).1
  exact aN_ok a ha i (by omega)
theorem Drawn.ok {R : Ords} (h : Drawn R) : RowsIn R := by
  refine ⟨h.hi, ?_, h.few, h.up⟩
  refine List.nodup_iff_pairwise_ne.mpr (List.pairwise_iff_getElem.mpr fun i j hi hj hij e => ?_)
  rw [List.length_map] at hi hj
  rw [List.getElem_map, List.getElem_map] at e
  obtain ⟨a, _, ea⟩ := h.nm i _ (List.getElem?_eq_getElem hi)
  obtain ⟨b, _, eb⟩ := h.nm j _ (List.getElem?_eq_getElem hj)
  have h9 := h.hi
  have := aN_inj (by omega) (by omega) (ea.symm.trans (e.trans eb))
  omega
theorem Drawn.nil : Drawn [] := ⟨by decide, fun i p h => (by simp at h), fun p h => (by cases h), fun i p h => (by simp at h)⟩
theorem Drawn.add {R : Ords} (h : Drawn R) (hl : R.length < 9) {a : Nat} (ha : a ∈ [97, 98, 99]) {bs : List Str} (hb : bs.length ≤ 3) (hm : ∀ b ∈ bs, b ∈ R.map (·.1)) : Drawn (R ++ [(aN a R.length, bs)]) := by
  have at_ : ∀ (i : Nat) (p : Str × List Str), (R ++ [(aN a R.length, bs)])[i]? = some p → R[i]? = some p ∨ (i = R.length ∧ p = (aN a R.length, bs)) := fun i p hp => by
    by_cases q : i < R.length
    · rw [List.getElem?_append_left q] at hp
      exact .inl hp
    · rw [List.getElem?_append_right (by omega)] at hp
      have hz : i - R.length = 0 := by
        have := (List.getElem?_eq_some_iff.mp hp).1
        simp at this
        omega
      rw [hz] at hp
      exact .inr ⟨by omega, (Option.some.inj hp).symm⟩
  refine ⟨by rw [List.length_append, List.length_singleton]; omega, fun i p hp => ?_, fun p hp => ?_, fun i p hp b hbm => ?_⟩
  · rcases at_ i p hp with h1 | ⟨rfl, rfl⟩
    · exact h.nm i p h1
    · exact ⟨a, ha, rfl⟩
  · rcases List.mem_append.mp hp with h1 | h1
    · exact h.few p h1
    · rw [List.mem_singleton.mp h1]
      exact hb
  · rw [List.map_append]
    rcases at_ i p hp with h1 | ⟨rfl, rfl⟩
    · have h2 := (List.getElem?_eq_some_iff.mp h1).1
      rw [List.take_append_of_le_length (by rw [List.length_map]; omega)]
      exact h.up i p h1 b hbm
    · rw [List.take_append_of_le_length (by rw [List.length_map]; exact Nat.le_refl _), List.take_of_length_le (by rw [List.length_map]; exact Nat.le_refl _)]
      exact hm b hbm
section
variable {H I : Hp} {M : List (Addr × HO)} {Z : List (Addr × HO) → Prop} {Q : VK}
theorem ins_own {p : Addr} {xs : List V} {j : Int} {y : V} (i : Nat) (S : Own H I M Z) (h : M[i]? = some (p, .lst xs)) (z : xs.length < sizeLine) (h0 : 0 ≤ j) (h1 : j < 2 ^ 63)
    (k : ∀ H', Own H' I (M.set i (p, .lst (xs.take j.toNat ++ [y] ++ xs.drop j.toNat))) Z → Q .non H') :
    ∃ (l : Addr) (xs' : List V) (i' : Int) (y' : V), V.ref p = .ref l ∧ [V.int j, y] = [.int i', y'] ∧ H l = some (.lst xs') ∧ xs'.length < sizeLine ∧ 0 ≤ i' ∧ i' < 2 ^ 63 ∧ Q .non (upd H l (.lst (xs'.take i'.toNat ++ [y'] ++ xs'.drop i'.toNat))) :=
  ⟨p, xs, j, y, rfl, rfl, S.get h, z, h0, h1, k _ (S.set i h)⟩
end
end Dz

namespace Dz
open PySem L2
abbrev sSource : Stmt := (PySem.Challenge.pw_everydoor_k12_orders_by_other_names.main.body.getD 12 (.Pass ⟨0, 0, 0, 0⟩))
abbrev sDraw : Stmt := (PySem.Challenge.pw_everydoor_k12_orders_by_other_names.main.body.getD 13 (.Pass ⟨0, 0, 0, 0⟩))
local macro_rules | `(tactic| walk_at "sm") => `(tactic| first | exact Same.refl _ | assumption | (refine' Same.trans ?_ (by assumption); walk_at "sm"))
local macro_rules | `(tactic| walk_at "own") => `(tactic| first
  | exact upd_same
  | assumption
  | (apply Own.get (i := 0); assumption; with_unfolding_all rfl)
  | (apply Own.get (i := 1); assumption; with_unfolding_all rfl)
  | (apply Own.get (i := 2); assumption; with_unfolding_all rfl)
  | (apply Own.get (i := 3); assumption; with_unfolding_all rfl)
  | (apply Own.get (i := 4); assumption; with_unfolding_all rfl)
  | (apply Own.get (i := 5); assumption; with_unfolding_all rfl))
local macro_rules | `(tactic| walk_at "fix") => `(tactic| first
  | assumption
  | (apply Own.imm; assumption; assumption)
  | (apply Own.imm; assumption; apply (show ∀ {I J : Hp}, Same I J → ∀ {a : Addr} {o : HO}, I a = some o → J a = some o from fun s _ _ e => s _ _ e); rotate_left; assumption; walk_at "sm"))
local macro_rules | `(tactic| walk_at "sq") => `(tactic| first
  | (apply SqL.of; walk_at "own")
  | (apply SqL.of; walk_at "fix")
  | (apply Same.seq; (apply Own.imm; assumption); first | assumption | (apply Same.seq; rotate_left; assumption; walk_at "sm")))
local macro_rules | `(tactic| walk_at "sqt") => `(tactic| first
  | (apply SqT.of; walk_at "own")
  | (apply SqT.of; walk_at "fix")
  | (apply Same.seqT; (apply Own.imm; assumption); first | assumption | (apply Same.seqT; rotate_left; assumption; walk_at "sm")))
local macro_rules | `(tactic| walk_at "ar") => `(tactic| first | assumption | omega | decide | exact wide_div (by assumption) (by assumption) (by decide) (by decide) | (constructor <;> omega) | (left; constructor <;> omega) | (right; constructor <;> omega))
local macro_rules | `(tactic| walk_at "x1") => `(tactic| with_reducible first
  | refine' x_seq ?_
  | refine' x_asg ?_
  | refine' x_name ?_
  | (refine' x_var ?x_h ?_; (case x_h => with_unfolding_all rfl))
  | refine' x_c ?_
  | refine' x_op ?_
  | refine' x_cons ?_
  | refine' x_nil ?_
  | refine' x_cb ?_
  | refine' x_ifS ?_
  | refine' x_test ?_
  | refine' x_and ?_
  | refine' x_or ?_
  | refine' x_not ?_
  | refine' x_bl ?_
  | refine' x_rI0 ?_
  | refine' x_eqI ?_
  | refine' x_neI ?_
  | refine' x_eqS ?_
  | refine' x_neS ?_
  | refine' x_eqB ?_
  | refine' x_neB ?_
  | refine' x_intI ?_
  | refine' x_intB ?_
  | refine' x_gSub ?_
  | refine' x_gCons ?_
  | refine' x_gNil ?_
  | refine' x_ret ?_
  | refine' x_retN ?_
  | refine' x_next ?_
  | refine' x_drop ?_
  | refine' x_call ?_
  | refine' x_sl ?_
  | refine' x_noPart ?_
  | refine' x_part ?_
  | refine' x_intE ?_
  | refine' x_tup ?_
  | refine' x_lst ?_
  | refine' x_iList ?_
  | refine' x_iTup ?_
  | refine' x_range1 ?_
  | refine' x_tdget ?_
  | refine' x_tdin ?_
  | refine' x_tdnotin ?_
  | refine' x_sdput ?_
  | refine' x_trev ?_
  | refine' x_for ?_
  | refine' x_lc ?_
  | refine' x_yes ?_
  | refine' x_un ?_
  | refine' x_bm ?_
  | refine' x_bm0 ?_
  | refine' x_tB ?_
  | refine' x_notV ?_
  | refine' x_andV ?_
  | refine' x_orV ?_
  | refine' x_ifE ?_
  | refine' x_isN ?_
  | refine' x_notN ?_
  | refine' x_inSg ?_
  | refine' x_notInSg ?_
  | refine' x_min2 ?_
  | refine' x_tyS ?_
  | refine' x_ifTrue ?_
  | refine' x_ifFalse ?_
  | refine' x_ifN ?_)
local macro_rules | `(tactic| walk_at "x2") => `(tactic| first
  | ((with_reducible refine' x_mod ?x_h ?_); (case x_h => walk_at "ar"))
  | ((with_reducible refine' x_rI ?x_h ?_); (case x_h => walk_at "ar"))
  | ((with_reducible refine' x_lenL ?x_h ?_); (case x_h => walk_at "sq"))
  | ((with_reducible refine' x_lenT ?x_h ?_); (case x_h => walk_at "sqt"))
  | ((with_reducible refine' x_ixL ?x_h ?x_a ?_); (case x_h => walk_at "sq"); (case x_a => first | with_unfolding_all rfl | assumption))
  | ((with_reducible refine' x_ixT ?x_h ?x_a ?_); (case x_h => walk_at "sqt"); (case x_a => first | with_unfolding_all rfl | assumption))
  | ((with_reducible refine' x_refL ?x_h ?_); (case x_h => walk_at "sq"))
  | ((with_reducible refine' x_refT ?x_h ?_); (case x_h => walk_at "sqt"))
  | ((with_reducible refine' x_gTup ?x_h ?x_a ?_); (case x_h => walk_at "sqt"); (case x_a => rfl))
  | ((with_reducible refine' x_tyL ?x_h ?_); (case x_h => walk_at "sq")))
local macro_rules | `(tactic| walk_at "set") => `(tactic| (first
  | (refine x_setO 0 (by assumption) (by with_unfolding_all rfl) (by with_unfolding_all rfl) ?_)
  | (refine x_setO 1 (by assumption) (by with_unfolding_all rfl) (by with_unfolding_all rfl) ?_)
  | (refine x_setO 2 (by assumption) (by with_unfolding_all rfl) (by with_unfolding_all rfl) ?_)
  | (refine x_setO 3 (by assumption) (by with_unfolding_all rfl) (by with_unfolding_all rfl) ?_)))
local macro_rules | `(tactic| walk_at "x") => `(tactic| repeat first | walk_at "x1" | walk_at "x2")
structure Bi (mg : Str → Option Value) : Prop where
  int_ : mg "int" = none
  len_ : mg "len" = none
  range_ : mg "range" = none
  str_ : mg "str" = none
  bool_ : mg "bool" = none
  list_ : mg "list" = none
  tuple_ : mg "tuple" = none
  dict_ : mg "dict" = none
  set_ : mg "set" = none
  isinstance_ : mg "isinstance" = none
  all_ : mg "all" = none
  any_ : mg "any" = none
  min_ : mg "min" = none
  max_ : mg "max" = none
  sorted_ : mg "sorted" = none
  enumerate_ : mg "enumerate" = none
  abs_ : mg "abs" = none
  sum_ : mg "sum" = none
  zip_ : mg "zip" = none
  reversed_ : mg "reversed" = none
  super_ : mg "super" = none

theorem ok_ints (l : List Int) : Enc.ok l = true := by
  show l.all (fun _ => true) = true
  simp
/-- a def of the text, its promise shown -/
structure Df (P : Program) (w : World) (K : PySem.W.Frag) (mg : Str → Option Value) (base : Heap) (x : Str) (k : Nat) (ps : List Str) (sp : L2.Sp) : Prop where
  ex : ∃ (f : Addr) (fd : FuncData), FnOk P w K mg base CX0 k f fd ps sp ∧ mg x = some (.ref f) ∧ PySem.W.keepIn K (.ref f) = true ∧ Binds K fd ps []
/-- the source of draws at p -/
def SrcZ (p : Addr) : List (Addr × HO) → Prop := fun N => ∃ (g l : Addr) (gs ls : List Int) (a t : Int),
  N = [(p, .lst [.ref g, .ref l, .int a, .int t]), (g, .lst (gs.map V.int)), (l, .lst (ls.map V.int))] ∧ gs.length ≤ 63 ∧ ls.length ≤ 63 ∧ ∀ x ∈ ls, 0 ≤ x ∧ x < 2147483647
theorem src_open {H I : Hp} {M : List (Addr × HO)} {p : Addr} (S : Own H I M (SrcZ p)) : ∃ (g l : Addr) (gs ls : List Int) (a t : Int),
    Own H I [(p, .lst [.ref g, .ref l, .int a, .int t]), (g, .lst (gs.map V.int)), (l, .lst (ls.map V.int))] (fun N => N = M) ∧ gs.length ≤ 63 ∧ ls.length ≤ 63 ∧ ∀ x ∈ ls, 0 ≤ x ∧ x < 2147483647 := by
  obtain ⟨N, ⟨g, l, gs, ls, a, t, rfl, h1, h2, h3⟩, S⟩ := S
  exact ⟨g, l, gs, ls, a, t, ⟨M, rfl, S.perm List.perm_append_comm⟩, h1, h2, h3⟩
theorem src_shut {H I : Hp} {M : List (Addr × HO)} {p g l : Addr} {gs ls : List Int} {a t : Int} (S : Own H I [(p, .lst [.ref g, .ref l, .int a, .int t]), (g, .lst (gs.map V.int)), (l, .lst (ls.map V.int))] (fun N => N = M))
    (h1 : gs.length ≤ 63) (h2 : ls.length ≤ 63) (h3 : ∀ x ∈ ls, 0 ≤ x ∧ x < 2147483647) : Own H I M (SrcZ p) := by
  obtain ⟨N, rfl, S⟩ := S
  exact ⟨_, ⟨g, l, gs, ls, a, t, rfl, h1, h2, h3⟩, S.perm List.perm_append_comm⟩
/-- a draw: any number from 0 below the limit -/
def spDraw : L2.Sp := fun vs H Q _ => ∃ (I : Hp) (M : List (Addr × HO)) (p : Addr) (lim : Int), vs = [.ref p, .int lim] ∧ Own H I M (SrcZ p) ∧ 0 < lim ∧ lim.natAbs < 2 ^ 200 ∧
  ∀ v H', 0 ≤ v → v < lim → Own H' I M (SrcZ p) → Q (.int v) H'
theorem cut_ints (ns : List Int) (lo hi : Option Int) : ∃ ms : List Int, cutV (ns.map V.int) lo hi = ms.map V.int ∧ ms.length ≤ ns.length := by
  unfold cutV
  rw [← List.map_drop, ← List.map_take]
  exact ⟨_, rfl, Nat.le_trans (List.length_take_le' ..) (by rw [List.length_drop]; omega)⟩
/-- the source of a script -/
def spSource (K : PySem.W.Frag) : L2.Sp := fun vs H Q _ => ∃ (I : Hp) (M : List (Addr × HO)) (a : Addr) (ns : List Int), vs = [.ref a] ∧ Own H I M Z0 ∧ SqL K I a (ns.map V.int) ∧ ns.length ≤ 63 ∧
  ∀ p H' I', Same I I' → Own H' I' M (SrcZ p) → Q (.ref p) H'
section
variable {P : Program} {w : World} {K : PySem.W.Frag} {mg : Str → Option Value} {base : Heap}
abbrev nDraw : List Str := ["_law_source_here", "_law_limit", "_law_greats", "_law_lessers", "_law_value", "_law_turn", "_law_primes", "_law_mixed"]
theorem scDraw : FnScope nDraw ["_law_source_here", "_law_limit"] (defScope sDraw) := ⟨rfl, rfl, rfl, by decide +kernel, rfl, by decide +kernel, by decide +kernel⟩
theorem ok_draw {f : Addr} {fd : FuncData} (F : Fun K "_law_draw" "_law_draw" sDraw f fd) (T : Bi mg) : FnOk P w K mg base CX0 1 f fd ["_law_source_here", "_law_limit"] spDraw := by
  refine F.ok scDraw (fun vs H Q E h => ?_) (fun cdv A outer s H vs Q E hr h => ?_)
  · obtain ⟨_, _, _, _, rfl, _⟩ := h
    rfl
  · obtain ⟨I, M, p, lim, rfl, S, l0, lz, k⟩ := h
    refine ⟨_, (pss_cons (ps_set (i := 2) scDraw.nd rfl (Or.inl rfl) (pe_ix (ix_listK (K := K)) (pv 0) pe_int (fun _ _ => rfl)))
    (pss_cons (ps_set (i := 3) scDraw.nd rfl (Or.inl rfl) (pe_ix (ix_listK (K := K)) (pv 0) pe_int (fun _ _ => rfl)))
    (C8.pss_cut (ps_if (PW.pt (pw_and (pt_cmpR op_eq (pe_ix (ix_listK (K := K)) (pv 0) pe_int (fun _ _ => rfl)) pe_int (nomark _)) (pw_and1 (pt_cmpR (neDK (K := K) hr.units) (pv 2) (pe_lst pa_nil) (nomark _)))))
      (pss_one (ps_asg (pe_bmK (K := K) PySem.F.plainAttrs_list PySem.F.slot_list_pop PySem.F.type_list_pop mt_popAt (pv 2) (pa_cons pe_int pa_nil)) (pg_sub (pv 0) pe_int set_list)))
      pss_nil)
    (pss_cons (ps_set (i := 4) scDraw.nd rfl (Or.inl rfl) (pe_op o_mod (pe_callTy c_int (by rfl) T.int_ (by decide +kernel) (pa_cons (pe_ix (ix_listK (K := K)) (pv 0) pe_int (fun _ _ => rfl)) pa_nil)) (pv 1)))
    (pss_cons (ps_asg (pe_op op_fdivW (pe_callTy c_int (by rfl) T.int_ (by decide +kernel) (pa_cons (pe_ix (ix_listK (K := K)) (pv 0) pe_int (fun _ _ => rfl)) pa_nil)) (pv 1)) (pg_sub (pv 0) pe_int set_list))
    (pss_cons (ps_set (i := 5) scDraw.nd rfl (Or.inl rfl) (pe_ix (ix_listK (K := K)) (pv 0) pe_int (fun _ _ => rfl)))
    (pss_cons (ps_asg (pe_op op_add (pv 5) pe_int) (pg_sub (pv 0) pe_int set_list))
    (C8.pss_cut (ps_if (pt_cmpR (neDK (K := K) hr.units) (pv 3) (pe_lst pa_nil) (nomark _))
      (pss_cons (ps_set (i := 6) scDraw.nd rfl (Or.inl rfl) (pe_lst (pa_cons pe_int (pa_cons pe_int (pa_cons pe_int (pa_cons pe_int (pa_cons pe_int (pa_cons pe_int (pa_cons pe_int (pa_cons pe_int pa_nil))))))))))
      (pss_cons (ps_set (i := 7) scDraw.nd rfl (Or.inl rfl) (pe_op o_mod (pe_callTy c_int (by rfl) T.int_ (by decide +kernel) (pa_cons (pe_op op_add (pe_op op_mul (pe_ix (ix_listK (K := K)) (pv 3) (pe_op o_mod (pv 5) (pe_callB (c_lenK (K := K)) (by rfl) T.len_ PySem.boot_len (pa_cons (pv 3) pa_nil))) (fun _ _ => rfl)) (pe_ix (ix_listK (K := K)) (pv 6) (pe_op o_mod (pv 5) pe_int) (fun _ _ => rfl))) (pe_op op_mul (pe_op op_add (pv 5) pe_int) pe_int)) pa_nil)) pe_int))
      (pss_one (ps_set (i := 4) scDraw.nd rfl (Or.inl rfl) (pe_op op_add (pv 4) (pe_op o_mod (pe_callTy c_int (by rfl) T.int_ (by decide +kernel) (pa_cons (pe_op op_add (pe_op op_mul (pv 7) (pv 7)) (pv 5)) pa_nil)) pe_int))))))
      pss_nil)
    (pss_one (ps_ret (pe_op o_mod (pv 4) (pv 1)))))))))))), ?_⟩
    try dsimp only [cxOf]
    obtain ⟨g, l, gs, ls, a, t, S, h1, h2, h3⟩ := src_open S
    walk_at "x"
    refine' x_cut (fun σ' H' => ∃ (gs' : List Int) (a' : Int), σ' = [some (.ref p), some (.int lim), some (.ref g), some (.ref l), none, none, none, none] ∧ gs'.length ≤ 63 ∧
      Own H' I [(p, .lst [.ref g, .ref l, .int a', .int t]), (g, .lst (gs'.map V.int)), (l, .lst (ls.map V.int))] (fun N => N = M)) ?_ ?_
    · walk_at "x"
      refine x_ifD (fun ha => ?_) (fun ha => ?_)
      · walk_at "x"
        refine x_lstI S (Nat.zero_le _) (fun q I1 H1 e1 hq S1 => ?_)
        refine x_neT (α := List Int) (x := gs) (y := []) (Rp.mkList (S1.get (i := 1) rfl) Rps.ints) (Rp.mkList (S1.imm _ _ hq) Rps.nil) (ok_ints _) (ok_ints _) ?_
        walk_at "x"
        refine x_ifD (fun hg => ?_) (fun hg => ?_)
        · walk_at "x"
          exact ⟨gs, a, rfl, h1, S1.down e1⟩
        · cases gs with
          | nil => exact absurd rfl hg
          | cons x r =>
            walk_at "x"
            refine x_popO 1 S1 rfl (by decide) (by decide) (n := 0) (by simp [seqIndex?]) rfl (fun H2 S2 => ?_)
            walk_at "x"
            refine x_setO 0 S2 rfl rfl (fun H3 S3 => ?_)
            exact ⟨r, x, rfl, by simp at h1; omega, S3.down e1⟩
      · walk_at "x"
        exact ⟨gs, a, rfl, h1, S⟩
    · rintro σ H1 ⟨gs1, a1, rfl, h4, S1⟩
      walk_at "x"
      refine x_setO 0 S1 rfl rfl (fun H2 S2 => ?_)
      walk_at "x"
      refine x_setO 0 S2 rfl rfl (fun H3 S3 => ?_)
      refine x_cut (fun σ' H' => ∃ (z : Int), ∃ v7 v6, 0 ≤ z ∧ σ' = [some (.ref p), some (.int lim), some (.ref g), some (.ref l), some (.int z), some (.int t), v6, v7] ∧
        Own H' I [(p, .lst [.ref g, .ref l, .int (a1 / lim), .int (t + 1)]), (g, .lst (gs1.map V.int)), (l, .lst (ls.map V.int))] (fun N => N = M)) ?_ ?_
      · walk_at "x"
        refine x_lstI S3 (Nat.zero_le _) (fun q I4 H4 e4 h4' S4 => ?_)
        have S4' : Own H4 I4 [(p, .lst [.ref g, .ref l, .int (a1 / lim), .int (t + 1)]), (g, .lst (gs1.map V.int)), (l, .lst (ls.map V.int))] (fun N => N = M) := S4
        refine x_neT (α := List Int) (x := ls) (y := []) (Rp.mkList (S4'.get (i := 2) rfl) Rps.ints) (Rp.mkList (S4.imm _ _ h4') Rps.nil) (ok_ints _) (ok_ints _) ?_
        walk_at "x"
        refine x_ifD (fun hl => ?_) (fun hl => ?_)
        · walk_at "x"
          exact ⟨a1 % lim, _, _, Int.emod_nonneg _ (by omega), rfl, S4'.down e4⟩
        · have hl0 : 0 < (ls.length : Int) := by
            cases ls with
            | nil => exact absurd rfl hl
            | cons _ _ => simp only [List.length_cons]; omega
          walk_at "x"
          refine x_lstI S4 (by decide) (fun q5 I5 H5 e5 hq5 S5 => ?_)
          have S5' : Own H5 I5 [(p, .lst [.ref g, .ref l, .int (a1 / lim), .int (t + 1)]), (g, .lst (gs1.map V.int)), (l, .lst (ls.map V.int))] (fun N => N = M) := S5
          walk_at "x"
          refine x_mod (by rw [List.length_map]; exact hl0) ?_
          have hl1 : 0 < ((ls.map V.int).length : Int) := by rw [List.length_map]; exact hl0
          obtain ⟨x, ea, _, xm⟩ := atI_map (f := V.int) (l := ls) (i := t % ((ls.map V.int).length : Int)) (Int.emod_nonneg _ (by omega)) (by have := Int.emod_lt_of_pos t hl1; rw [List.length_map] at this ⊢; exact this)
          obtain ⟨y, eb, _, ym⟩ := atI_map (f := V.int) (l := [48271, 69621, 16807, 39373, 62089, 40692, 52774, 31743]) (i := t % 8) (Int.emod_nonneg _ (by decide)) (Int.emod_lt_of_pos t (by decide))
          have hx := h3 x xm
          refine x_ixL (SqL.of (S5'.get (i := 2) rfl)) ea ?_
          walk_at "x"
          have hn := Int.emod_nonneg ((x * y + (t + 1) * 104729) % 2147483647 * ((x * y + (t + 1) * 104729) % 2147483647) + t) (show (2147483629 : Int) ≠ 0 by decide)
          have ha := Int.emod_nonneg a1 (show lim ≠ 0 by omega)
          exact ⟨_, _, _, Int.add_nonneg ha hn, rfl, (S5'.down e5).down e4⟩
      · rintro σ H1 ⟨z, v7, v6, z0, rfl, S4⟩
        walk_at "x"
        exact k _ _ (Int.emod_nonneg _ (by omega)) (Int.emod_lt_of_pos _ l0) (src_shut S4 h4 h2 h3)
abbrev nSource : List Str := ["_law_script", "_law_greats", "_law_lessers", "_law_cell"]
theorem scSource : FnScope nSource ["_law_script"] (defScope sSource) := ⟨rfl, rfl, rfl, by decide +kernel, rfl, by decide +kernel, by decide +kernel⟩
theorem ok_source {f : Addr} {fd : FuncData} (F : Fun K "_law_source" "_law_source" sSource f fd) (T : Bi mg) : FnOk P w K mg base CX0 1 f fd ["_law_script"] (spSource K) := by
  refine F.ok scSource (fun vs H Q E h => ?_) (fun cdv A outer s H vs Q E hr h => ?_)
  · obtain ⟨_, _, _, _, rfl, _⟩ := h
    rfl
  · obtain ⟨I, M, a, ns, rfl, S, hS, hn, k⟩ := h
    refine ⟨_, (pss_cons (ps_setLc (own := [("_law_cell", 3)]) (i := 1) rfl scSource.nd rfl rfl (sw_true rfl rfl rfl (by decide +kernel)) (pi_listK (K := K) (pe_slice (sl_listK (K := K)) (pv 0) po_none (po_some pe_int))) (blkOk_by (N := nSource) (sc := (defScope sSource)) (by decide +kernel)) (fun _ _ _ _ _ => (pg_name (i := 3) scSource.nd rfl (Or.inl rfl))) (fun _ _ _ _ _ => (pts_one (pt_cmpR op_ge (pv 3) (pe_op op_pow pe_int pe_int) (nomark _)))) (fun _ _ _ _ _ => (pe_callTy c_int (by rfl) T.int_ (by decide +kernel) (pa_cons (pv 3) pa_nil))))
    (pss_cons (ps_setLc (own := [("_law_cell", 3)]) (i := 2) rfl scSource.nd rfl rfl (sw_true rfl rfl rfl (by decide +kernel)) (pi_listK (K := K) (pe_slice (sl_listK (K := K)) (pv 0) po_none (po_some pe_int))) (blkOk_by (N := nSource) (sc := (defScope sSource)) (by decide +kernel)) (fun _ _ _ _ _ => (pg_name (i := 3) scSource.nd rfl (Or.inl rfl))) (fun _ _ _ _ _ => (pts_one (pt_cmpR op_lt (pv 3) (pe_op op_pow pe_int pe_int) (nomark _)))) (fun _ _ _ _ _ => (pe_op o_mod (pe_callTy c_int (by rfl) T.int_ (by decide +kernel) (pa_cons (pv 3) pa_nil)) pe_int)))
    (pss_one (ps_ret (pe_lst (pa_cons (pv 1) (pa_cons (pv 2) (pa_cons pe_int (pa_cons pe_int pa_nil))))))))), ?_⟩
    try dsimp only [cxOf]
    obtain ⟨ms, em, hm⟩ := cut_ints ns none (some 63)
    walk_at "x"
    refine x_slI S (Same.seq S.imm hS) (fun q1 I1 H1 e1 h1 S1 => ?_)
    rw [em] at h1
    refine x_refL (SqL.of (S1.imm _ _ h1)) ?_
    refine x_lcL (l := ms) S1 h1 Rps.ints (fun i acc _ => ∃ gs : List Int, acc = gs.map V.int ∧ gs.length ≤ i) ⟨[], rfl, Nat.le_refl _⟩ ?_ ?_
    · rintro i x v acc D I' H' hx e rv S' hl ⟨gs, rfl, hg⟩
      have hi := (List.getElem?_eq_some_iff.mp hx).1
      obtain rfl := rv.int
      walk_at "x"
      refine ⟨rfl, ?_⟩
      walk_at "x"
      refine x_ifD (fun _ => ?_) (fun _ => ?_)
      · walk_at "x"
        exact x_lcE e S' hl (Nat.lt_of_le_of_lt (show i ≤ 63 by omega) (by decide)) ⟨gs ++ [x], by simp, by simp; omega⟩
      · exact x_lcS e S' hl ⟨gs, rfl, by omega⟩
    · rintro g acc I2 H2 e2 S2 ⟨gs, rfl, hg⟩
      walk_at "x"
      refine x_slI S2 (Same.seq ((e1.trans e2).trans S2.imm) hS) (fun q3 I3 H3 e3 h3 S3 => ?_)
      rw [em] at h3
      refine x_refL (SqL.of (S3.imm _ _ h3)) ?_
      refine x_lcL (l := ms) S3 h3 Rps.ints (fun i acc _ => ∃ ls : List Int, acc = ls.map V.int ∧ ls.length ≤ i ∧ ∀ x ∈ ls, 0 ≤ x ∧ x < 2147483647) ⟨[], rfl, Nat.le_refl _, by simp⟩ ?_ ?_
      · rintro i x v acc D I' H' hx e rv S' hl ⟨ls, rfl, hg, hb⟩
        have hi := (List.getElem?_eq_some_iff.mp hx).1
        obtain rfl := rv.int
        walk_at "x"
        refine ⟨rfl, ?_⟩
        walk_at "x"
        refine x_ifD (fun _ => ?_) (fun _ => ?_)
        · walk_at "x"
          refine x_lcE e S' hl (Nat.lt_of_le_of_lt (show i ≤ 63 by omega) (by decide)) ⟨ls ++ [x % 2147483647], by simp, by simp; omega, fun y hy => ?_⟩
          rcases List.mem_append.mp hy with hy | hy
          · exact hb y hy
          · rw [List.mem_singleton.mp hy]
            exact ⟨Int.emod_nonneg _ (by decide), Int.emod_lt_of_pos _ (by decide)⟩
        · exact x_lcS e S' hl ⟨ls, rfl, by omega, hb⟩
      · rintro l acc I4 H4 e4 S4 ⟨ls, rfl, hl, hb⟩
        walk_at "x"
        refine x_lstM S4 (show 4 ≤ sizeLine by decide) (fun p H5 S5 => ?_)
        obtain ⟨N, rfl, S6⟩ := S5
        refine k p H5 I4 (((e1.trans e2).trans e3).trans e4) ⟨_, ⟨g, l, gs, ls, 0, 0, rfl, by omega, by omega, hb⟩, S6.perm ?_⟩
        rw [List.append_nil]
        exact (List.Perm.cons _ (List.Perm.swap _ _ _)).trans (List.perm_append_comm (l₁ := [(p, HO.lst [.ref g, .ref l, .int 0, .int 0]), (g, HO.lst (gs.map V.int)), (l, HO.lst (ls.map V.int))]) (l₂ := M))
end
theorem x_draw {H I : Hp} {M : List (Addr × HO)} {p : Addr} {lim : Int} {Q : VK} {E : XK} (S : Own H I M (SrcZ p)) (h0 : 0 < lim) (h1 : lim.natAbs < 2 ^ 200) (k : ∀ v H', 0 ≤ v → v < lim → Own H' I M (SrcZ p) → Q (.int v) H') :
    spDraw ([.ref p, .int lim] ++ []) H Q E := ⟨I, M, p, lim, rfl, S, h0, h1, k⟩

end Dz

/-! The program's Barred: its __init__. -/
namespace Dz
open PySem L2 NdefX
local macro_rules | `(tactic| walk_at "sm") => `(tactic| first | exact Same.refl _ | assumption | (refine' Same.trans ?_ (by assumption); walk_at "sm"))
local macro_rules | `(tactic| walk_at "own") => `(tactic| first
  | exact upd_same
  | assumption
  | (apply Own.get (i := 0); assumption; with_unfolding_all rfl)
  | (apply Own.get (i := 1); assumption; with_unfolding_all rfl)
  | (apply Own.get (i := 2); assumption; with_unfolding_all rfl)
  | (apply Own.get (i := 3); assumption; with_unfolding_all rfl)
  | (apply Own.get (i := 4); assumption; with_unfolding_all rfl)
  | (apply Own.get (i := 5); assumption; with_unfolding_all rfl))
local macro_rules | `(tactic| walk_at "fix") => `(tactic| first
  | assumption
  | (apply Own.imm; assumption; assumption)
  | (apply Own.imm; assumption; apply (show ∀ {I J : Hp}, Same I J → ∀ {a : Addr} {o : HO}, I a = some o → J a = some o from fun s _ _ e => s _ _ e); rotate_left; assumption; walk_at "sm"))
local macro_rules | `(tactic| walk_at "sq") => `(tactic| first
  | (apply SqL.of; walk_at "own")
  | (apply SqL.of; walk_at "fix")
  | (apply Same.seq; (apply Own.imm; assumption); first | assumption | (apply Same.seq; rotate_left; assumption; walk_at "sm")))
local macro_rules | `(tactic| walk_at "sqt") => `(tactic| first
  | (apply SqT.of; walk_at "own")
  | (apply SqT.of; walk_at "fix")
  | (apply Same.seqT; (apply Own.imm; assumption); first | assumption | (apply Same.seqT; rotate_left; assumption; walk_at "sm")))
local macro_rules | `(tactic| walk_at "ar") => `(tactic| first | assumption | omega | decide | exact wide_div (by assumption) (by assumption) (by decide) (by decide) | (constructor <;> omega) | (left; constructor <;> omega) | (right; constructor <;> omega))
local macro_rules | `(tactic| walk_at "x1") => `(tactic| with_reducible first
  | refine' x_seq ?_
  | refine' x_asg ?_
  | refine' x_name ?_
  | (refine' x_var ?x_h ?_; (case x_h => with_unfolding_all rfl))
  | refine' x_c ?_
  | refine' x_op ?_
  | refine' x_cons ?_
  | refine' x_nil ?_
  | refine' x_cb ?_
  | refine' x_ifS ?_
  | refine' x_test ?_
  | refine' x_and ?_
  | refine' x_or ?_
  | refine' x_not ?_
  | refine' x_bl ?_
  | refine' x_rI0 ?_
  | refine' x_eqI ?_
  | refine' x_neI ?_
  | refine' x_eqS ?_
  | refine' x_neS ?_
  | refine' x_eqB ?_
  | refine' x_neB ?_
  | refine' x_intI ?_
  | refine' x_intB ?_
  | refine' x_gSub ?_
  | refine' x_gCons ?_
  | refine' x_gNil ?_
  | refine' x_ret ?_
  | refine' x_retN ?_
  | refine' x_next ?_
  | refine' x_drop ?_
  | refine' x_call ?_
  | refine' x_sl ?_
  | refine' x_noPart ?_
  | refine' x_part ?_
  | refine' x_intE ?_
  | refine' x_tup ?_
  | refine' x_lst ?_
  | refine' x_iList ?_
  | refine' x_iTup ?_
  | refine' x_range1 ?_
  | refine' x_tdget ?_
  | refine' x_tdin ?_
  | refine' x_tdnotin ?_
  | refine' x_sdput ?_
  | refine' x_trev ?_
  | refine' x_for ?_
  | refine' x_lc ?_
  | refine' x_yes ?_
  | refine' x_un ?_
  | refine' x_bm ?_
  | refine' x_bm0 ?_
  | refine' x_tB ?_
  | refine' x_notV ?_
  | refine' x_andV ?_
  | refine' x_orV ?_
  | refine' x_ifE ?_
  | refine' x_isN ?_
  | refine' x_notN ?_
  | refine' x_inSg ?_
  | refine' x_notInSg ?_
  | refine' x_min2 ?_
  | refine' x_tyS ?_
  | refine' x_ifTrue ?_
  | refine' x_ifFalse ?_
  | refine' x_ifN ?_)
local macro_rules | `(tactic| walk_at "x2") => `(tactic| first
  | ((with_reducible refine' x_mod ?x_h ?_); (case x_h => walk_at "ar"))
  | ((with_reducible refine' x_rI ?x_h ?_); (case x_h => walk_at "ar"))
  | ((with_reducible refine' x_lenL ?x_h ?_); (case x_h => walk_at "sq"))
  | ((with_reducible refine' x_lenT ?x_h ?_); (case x_h => walk_at "sqt"))
  | ((with_reducible refine' x_ixL ?x_h ?x_a ?_); (case x_h => walk_at "sq"); (case x_a => first | with_unfolding_all rfl | assumption))
  | ((with_reducible refine' x_ixT ?x_h ?x_a ?_); (case x_h => walk_at "sqt"); (case x_a => first | with_unfolding_all rfl | assumption))
  | ((with_reducible refine' x_refL ?x_h ?_); (case x_h => walk_at "sq"))
  | ((with_reducible refine' x_refT ?x_h ?_); (case x_h => walk_at "sqt"))
  | ((with_reducible refine' x_gTup ?x_h ?x_a ?_); (case x_h => walk_at "sqt"); (case x_a => rfl))
  | ((with_reducible refine' x_tyL ?x_h ?_); (case x_h => walk_at "sq")))
local macro_rules | `(tactic| walk_at "set") => `(tactic| (first
  | (refine x_setO 0 (by assumption) (by with_unfolding_all rfl) (by with_unfolding_all rfl) ?_)
  | (refine x_setO 1 (by assumption) (by with_unfolding_all rfl) (by with_unfolding_all rfl) ?_)
  | (refine x_setO 2 (by assumption) (by with_unfolding_all rfl) (by with_unfolding_all rfl) ?_)
  | (refine x_setO 3 (by assumption) (by with_unfolding_all rfl) (by with_unfolding_all rfl) ?_)))
local macro_rules | `(tactic| walk_at "x") => `(tactic| repeat first | walk_at "x1" | walk_at "x2")
local macro_rules | `(tactic| walk_at "y1") => `(tactic| with_reducible first
  | refine' x_chain ?_
  | refine' x_iS ?_
  | refine' x_strE ?_)
local macro_rules | `(tactic| walk_at "y2") => `(tactic| first
  | ((with_reducible refine' x_lenS ?x_h ?_); (case x_h => first | assumption | omega)))
local macro_rules | `(tactic| walk_at "x") => `(tactic| repeat first | walk_at "x1" | walk_at "y1" | walk_at "x2" | walk_at "y2")
local macro_rules | `(tactic| walk_at "y3") => `(tactic| with_reducible first
  | refine' x_rs ?_
  | refine' x_starts ?_
  | refine' x_ends ?_
  | refine' x_tru ?_
  | refine' x_rsL ?_)
local macro_rules | `(tactic| walk_at "x") => `(tactic| repeat first | walk_at "x1" | walk_at "y1" | walk_at "y3" | walk_at "x2" | walk_at "y2")
abbrev sBInit : Stmt := (inClass (PySem.Challenge.pw_everydoor_k12_orders_by_other_names.main.body.getD 2 (.Pass ⟨0, 0, 0, 0⟩)) 0)
theorem upd_swap {H : Hp} {a b : Addr} {o u : HO} (h : a ≠ b) : upd (upd H a o) b u = upd (upd H b u) a o := by
  funext c
  by_cases h1 : c = a
  · by_cases h2 : c = b
    · exact absurd (h1.symm.trans h2) h
    · rw [upd_ne h2, h1, upd_same, upd_same]
  · by_cases h2 : c = b
    · rw [h2, upd_same, upd_ne (Ne.symm h), upd_same]
    · rw [upd_ne h2, upd_ne h1, upd_ne h1, upd_ne h2]
theorem x_ost {K : PySem.W.Frag} {f : Str} {to te : TE} {nx : L2.St → Hp → Prop} {rt : VK} {bk ct : L2.St → Hp → Prop} {σ : L2.St} {H : Hp} (k : te σ H fun y H1 => to σ H1 fun x H2 => ∃ a C : Addr, x = .ref a ∧ OexC K C ∧ PySem.W.findIn K (.ref C) f = some none ∧
  ((H2 a = some (exo a C none) ∧ ∀ dx, H2 dx = none → dx ≠ a → nx σ (upd (upd H2 dx (exd dx [(f, y)])) a (exo a C (some dx)))) ∨
    ∃ (dx : Addr) (fs : List (Str × V)), H2 a = some (exo a C (some dx)) ∧ H2 dx = some (exd dx fs) ∧ fs.length ≤ 900 ∧ nx σ (upd H2 dx (exd dx ((f, y) :: fs))))) : tOst K f to te ⟨nx, rt, bk, ct⟩ σ H := k
section
variable {P : Program} {w : World} {K : PySem.W.Frag} {mg : Str → Option Value} {base : Heap}
theorem scB : NScope ["self", "heads", "__class__"] ["self", "heads"] ["__class__"] (defScope sBInit) := nscope_by (by decide +kernel)
theorem ok_Barred_init {C f cc cda : Addr} {fd : FuncData} (D : SupD K P C f cc cda "Barred.__init__" (defArgs sBInit) (defBody sBInit) (defScope sBInit) fd) (T : Bi mg) (TC : OexC K C) (nh : PySem.W.findIn K (.ref C) "heads" = some none) :
    FnOk P w K mg base CX0 1 f fd ["self", "heads"] (spInitL K C "heads") := by
  refine fn_super (N := ["self", "heads", "__class__"]) D scB (fun vs H Q E h => ?_) (fun A outer s s1 H vs Q E hr h I => ?_)
  · obtain ⟨_, _, _, rfl, _⟩ := h
    rfl
  · obtain ⟨a, p, ys, rfl, ha, hs, k⟩ := h
    refine ⟨_, pss_one (ps_ost (pv 0) (pe_callTy (c_listOfK (K := K)) (by rfl) T.list_ (by decide +kernel) (pa_cons (pv 1) pa_nil))), ?_⟩
    refine sup_stmt (C := C) (a := a) D rfl T.super_ rfl (by decide +kernel) (by decide +kernel) (by decide +kernel) rfl I rfl TC ha (pa_cons pe_str pa_nil) ?_
    walk_at "x"
    refine ⟨show 1 ≤ 1000 by decide, ha, ?_⟩
    refine x_ost ?_
    walk_at "x"
    refine ⟨p, ys, rfl, .inl hs, fun q hq => ?_⟩
    walk_at "x"
    have qa : q ≠ a := fun z => by rw [z, ha] at hq; cases hq
    refine ⟨a, C, rfl, TC, nh, .inl ⟨by rw [upd_ne (Ne.symm qa)]; exact ha, fun d hd da => ?_⟩⟩
    have dq : d ≠ q := fun z => by rw [z, upd_same] at hd; cases hd
    rw [upd_swap da]
    exact k q d qa da dq hq (by rw [upd_ne dq] at hd; exact hd)
end
end Dz

/-! What the orders need, where no library text is read. -/
namespace Dz
open PySem L2
theorem sz {n : Nat} (h : n ≤ 100000) : n ≤ sizeLine := Nat.le_trans h (by decide)
theorem szl {n : Nat} (h : n < 100000) : n < sizeLine := Nat.lt_of_lt_of_le h (by decide)
/-- a def of the text that may raise, its promise shown -/
structure Dx (P : Program) (w : World) (K : PySem.W.Frag) (mg : Str → Option Value) (base : Heap) (x : Str) (k : Nat) (ps : List Str) (sp : L2.Sp) : Prop where
  ex : ∃ (f : Addr) (fd : FuncData), FnOk P w K mg base (L2.CX P w) k f fd ps sp ∧ mg x = some (.ref f) ∧ PySem.W.keepIn K (.ref f) = true ∧ Binds K fd ps []
end Dz

/-! The program: orders. -/
namespace Dz
open PySem L2
local macro_rules | `(tactic| walk_at "sm") => `(tactic| first | exact Same.refl _ | assumption | (refine' Same.trans ?_ (by assumption); walk_at "sm"))
local macro_rules | `(tactic| walk_at "own") => `(tactic| first
  | exact upd_same
  | assumption
  | (apply Own.get (i := 0); assumption; with_unfolding_all rfl)
  | (apply Own.get (i := 1); assumption; with_unfolding_all rfl)
  | (apply Own.get (i := 2); assumption; with_unfolding_all rfl)
  | (apply Own.get (i := 3); assumption; with_unfolding_all rfl)
  | (apply Own.get (i := 4); assumption; with_unfolding_all rfl)
  | (apply Own.get (i := 5); assumption; with_unfolding_all rfl))
local macro_rules | `(tactic| walk_at "fix") => `(tactic| first
  | assumption
  | (apply Own.imm; assumption; assumption)
  | (apply Own.imm; assumption; apply (show ∀ {I J : Hp}, Same I J → ∀ {a : Addr} {o : HO}, I a = some o → J a = some o from fun s _ _ e => s _ _ e); rotate_left; assumption; walk_at "sm"))
local macro_rules | `(tactic| walk_at "sq") => `(tactic| first
  | (apply SqL.of; walk_at "own")
  | (apply SqL.of; walk_at "fix")
  | (apply Same.seq; (apply Own.imm; assumption); first | assumption | (apply Same.seq; rotate_left; assumption; walk_at "sm")))
local macro_rules | `(tactic| walk_at "sqt") => `(tactic| first
  | (apply SqT.of; walk_at "own")
  | (apply SqT.of; walk_at "fix")
  | (apply Same.seqT; (apply Own.imm; assumption); first | assumption | (apply Same.seqT; rotate_left; assumption; walk_at "sm")))
local macro_rules | `(tactic| walk_at "ar") => `(tactic| first | assumption | omega | decide | exact wide_div (by assumption) (by assumption) (by decide) (by decide) | (constructor <;> omega) | (left; constructor <;> omega) | (right; constructor <;> omega))
local macro_rules | `(tactic| walk_at "x1") => `(tactic| with_reducible first
  | refine' x_seq ?_
  | refine' x_asg ?_
  | refine' x_name ?_
  | (refine' x_var ?x_h ?_; (case x_h => with_unfolding_all rfl))
  | refine' x_c ?_
  | refine' x_op ?_
  | refine' x_cons ?_
  | refine' x_nil ?_
  | refine' x_cb ?_
  | refine' x_ifS ?_
  | refine' x_test ?_
  | refine' x_and ?_
  | refine' x_or ?_
  | refine' x_not ?_
  | refine' x_bl ?_
  | refine' x_rI0 ?_
  | refine' x_eqI ?_
  | refine' x_neI ?_
  | refine' x_eqS ?_
  | refine' x_neS ?_
  | refine' x_eqB ?_
  | refine' x_neB ?_
  | refine' x_intI ?_
  | refine' x_intB ?_
  | refine' x_gSub ?_
  | refine' x_gCons ?_
  | refine' x_gNil ?_
  | refine' x_ret ?_
  | refine' x_retN ?_
  | refine' x_next ?_
  | refine' x_drop ?_
  | refine' x_call ?_
  | refine' x_sl ?_
  | refine' x_noPart ?_
  | refine' x_part ?_
  | refine' x_intE ?_
  | refine' x_tup ?_
  | refine' x_lst ?_
  | refine' x_iList ?_
  | refine' x_iTup ?_
  | refine' x_range1 ?_
  | refine' x_tdget ?_
  | refine' x_tdin ?_
  | refine' x_tdnotin ?_
  | refine' x_sdput ?_
  | refine' x_trev ?_
  | refine' x_for ?_
  | refine' x_lc ?_
  | refine' x_yes ?_
  | refine' x_un ?_
  | refine' x_bm ?_
  | refine' x_bm0 ?_
  | refine' x_tB ?_
  | refine' x_notV ?_
  | refine' x_andV ?_
  | refine' x_orV ?_
  | refine' x_ifE ?_
  | refine' x_isN ?_
  | refine' x_notN ?_
  | refine' x_inSg ?_
  | refine' x_notInSg ?_
  | refine' x_min2 ?_
  | refine' x_tyS ?_
  | refine' x_ifTrue ?_
  | refine' x_ifFalse ?_
  | refine' x_ifN ?_)
local macro_rules | `(tactic| walk_at "x2") => `(tactic| first
  | ((with_reducible refine' x_mod ?x_h ?_); (case x_h => walk_at "ar"))
  | ((with_reducible refine' x_rI ?x_h ?_); (case x_h => walk_at "ar"))
  | ((with_reducible refine' x_lenL ?x_h ?_); (case x_h => walk_at "sq"))
  | ((with_reducible refine' x_lenT ?x_h ?_); (case x_h => walk_at "sqt"))
  | ((with_reducible refine' x_ixL ?x_h ?x_a ?_); (case x_h => walk_at "sq"); (case x_a => first | with_unfolding_all rfl | assumption))
  | ((with_reducible refine' x_ixT ?x_h ?x_a ?_); (case x_h => walk_at "sqt"); (case x_a => first | with_unfolding_all rfl | assumption))
  | ((with_reducible refine' x_refL ?x_h ?_); (case x_h => walk_at "sq"))
  | ((with_reducible refine' x_refT ?x_h ?_); (case x_h => walk_at "sqt"))
  | ((with_reducible refine' x_gTup ?x_h ?x_a ?_); (case x_h => walk_at "sqt"); (case x_a => rfl))
  | ((with_reducible refine' x_tyL ?x_h ?_); (case x_h => walk_at "sq")))
local macro_rules | `(tactic| walk_at "set") => `(tactic| (first
  | (refine x_setO 0 (by assumption) (by with_unfolding_all rfl) (by with_unfolding_all rfl) ?_)
  | (refine x_setO 1 (by assumption) (by with_unfolding_all rfl) (by with_unfolding_all rfl) ?_)
  | (refine x_setO 2 (by assumption) (by with_unfolding_all rfl) (by with_unfolding_all rfl) ?_)
  | (refine x_setO 3 (by assumption) (by with_unfolding_all rfl) (by with_unfolding_all rfl) ?_)))
local macro_rules | `(tactic| walk_at "x") => `(tactic| repeat first | walk_at "x1" | walk_at "x2")
local macro_rules | `(tactic| walk_at "y1") => `(tactic| with_reducible first
  | refine' x_chain ?_
  | refine' x_iS ?_
  | refine' x_strE ?_)
local macro_rules | `(tactic| walk_at "y2") => `(tactic| first
  | ((with_reducible refine' x_lenS ?x_h ?_); (case x_h => first | assumption | omega)))
local macro_rules | `(tactic| walk_at "x") => `(tactic| repeat first | walk_at "x1" | walk_at "y1" | walk_at "x2" | walk_at "y2")
local macro_rules | `(tactic| walk_at "y3") => `(tactic| with_reducible first
  | refine' x_rs ?_
  | refine' x_starts ?_
  | refine' x_ends ?_
  | refine' x_tru ?_
  | refine' x_rsL ?_)
local macro_rules | `(tactic| walk_at "x") => `(tactic| repeat first | walk_at "x1" | walk_at "y1" | walk_at "y3" | walk_at "x2" | walk_at "y2")
abbrev sStands : Stmt := (PySem.Challenge.pw_everydoor_k12_orders_by_other_names.main.body.getD 8 (.Pass ⟨0, 0, 0, 0⟩))
abbrev nStands : List Str := ["name", "rows", "row"]
theorem scStands : FnScope nStands ["name", "rows"] (defScope sStands) := ⟨rfl, rfl, rfl, by decide +kernel, rfl, by decide +kernel, by decide +kernel⟩
abbrev sWithout : Stmt := (PySem.Challenge.pw_everydoor_k12_orders_by_other_names.main.body.getD 9 (.Pass ⟨0, 0, 0, 0⟩))
abbrev nWithout : List Str := ["rows", "head", "shorter", "row"]
theorem scWithout : FnScope nWithout ["rows", "head"] (defScope sWithout) := ⟨rfl, rfl, rfl, by decide +kernel, rfl, by decide +kernel, by decide +kernel⟩
abbrev sHeads : Stmt := (PySem.Challenge.pw_everydoor_k12_orders_by_other_names.main.body.getD 10 (.Pass ⟨0, 0, 0, 0⟩))
abbrev nHeads : List Str := ["rows", "heads", "row"]
theorem scHeads : FnScope nHeads ["rows"] (defScope sHeads) := ⟨rfl, rfl, rfl, by decide +kernel, rfl, by decide +kernel, by decide +kernel⟩
abbrev sFree : Stmt := (PySem.Challenge.pw_everydoor_k12_orders_by_other_names.main.body.getD 7 (.Pass ⟨0, 0, 0, 0⟩))
abbrev nFree : List Str := ["rows", "row"]
theorem scFree : FnScope nFree ["rows"] (defScope sFree) := ⟨rfl, rfl, rfl, by decide +kernel, rfl, by decide +kernel, by decide +kernel⟩
abbrev sPMerge : Stmt := (PySem.Challenge.pw_everydoor_k12_orders_by_other_names.main.body.getD 6 (.Pass ⟨0, 0, 0, 0⟩))
abbrev nPMerge : List Str := ["rows", "left", "merged", "head", "row"]
theorem scPMerge : FnScope nPMerge ["rows"] (defScope sPMerge) := ⟨rfl, rfl, rfl, by decide +kernel, rfl, by decide +kernel, by decide +kernel⟩
def spStands (K : PySem.W.Frag) : L2.Sp := fun vs H Q _ => ∃ (I : Hp) (M : List (Addr × HO)) (Z : List (Addr × HO) → Prop) (x : Str) (u : V) (rows : List (List Str)), vs = [.str x, u] ∧ Own H I M Z ∧ Rp K I u rows ∧ rows.length < 1000 ∧
  ∀ H' I', Same I I' → Own H' I' M Z → Q (.bl (standsB x rows)) H'
def spWithout (K : PySem.W.Frag) : L2.Sp := fun vs H Q _ => ∃ (I : Hp) (M : List (Addr × HO)) (Z : List (Addr × HO) → Prop) (h : Str) (u : V) (rows : List (List Str)), vs = [u, .str h] ∧ Own H I M Z ∧ Rp K I u rows ∧ rows.length < 1000 ∧ (∀ r ∈ rows, r ≠ []) ∧
  ∀ v H' I', Same I I' → Own H' I' M Z → Rp K I' v (withoutL rows h) → Q v H'
theorem headsL_len (rows : List (List Str)) : ∀ acc : List Str, (rows.foldl (fun acc r => if r.headD "" ∈ acc then acc else acc ++ [r.headD ""]) acc).length ≤ acc.length + rows.length := by
  induction rows with
  | nil => exact fun _ => Nat.le_refl _
  | cons r t ih =>
    intro acc
    rw [List.foldl_cons]
    refine Nat.le_trans (ih _) ?_
    rw [List.length_cons]
    split
    · omega
    · rw [List.length_append, List.length_singleton]; omega
def spHeads (K : PySem.W.Frag) : L2.Sp := fun vs H Q _ => ∃ (I : Hp) (M : List (Addr × HO)) (Z : List (Addr × HO) → Prop) (u : V) (rows : List (List Str)), vs = [u] ∧ Own H I M Z ∧ Rp K I u rows ∧ rows.length < 1000 ∧ (∀ r ∈ rows, r ≠ []) ∧
  ∀ v H' I', Same I I' → Own H' I' M Z → Rp K I' v (headsL rows) → Q v H'
def spFree (K : PySem.W.Frag) (CB : Addr) : L2.Sp := fun vs H Q E => ∃ (I : Hp) (M : List (Addr × HO)) (Z : List (Addr × HO) → Prop) (u : V) (rows : List (List Str)), vs = [u] ∧ Own H I M Z ∧ Rp K I u rows ∧ rows.length < 1000 ∧ (∀ r ∈ rows, r ≠ []) ∧
  (∀ x H' I', freeL rows = some x → Same I I' → Own H' I' M Z → Q (.str x) H') ∧
  (∀ q d H' I', freeL rows = none → Same I I' → I q = none → Own H' I' M Z → I' q = some (.lst ((headsL rows).map V.str)) → I' d = some (.xd [(("heads" : Str), .ref q)]) → E (.ref CB) (some d) H')
theorem cutHead_len (x : Str) (r : List Str) : (cutHead x r).length ≤ r.length ∧ (r ≠ [] → r.headD "" = x → (cutHead x r).length < r.length) := by
  unfold cutHead
  split
  · rw [List.length_drop]
    exact ⟨by omega, fun h _ => by have := List.length_pos_iff.mpr h; omega⟩
  · rename_i h
    exact ⟨Nat.le_refl _, fun _ e => absurd e h⟩
theorem sumL_filt (c : List Str) (l : List (List Str)) : sumL ((c :: l).filter fun r => !r.isEmpty) = c.length + sumL (l.filter fun r => !r.isEmpty) := by
  cases c with
  | nil => simp [sumL]
  | cons a t => simp [sumL]
theorem without_sum (x : Str) : ∀ rows : List (List Str), sumL (withoutL rows x) ≤ sumL rows ∧ ((∃ r ∈ rows, r ≠ [] ∧ r.headD "" = x) → sumL (withoutL rows x) < sumL rows)
  | [] => ⟨Nat.le_refl _, fun ⟨r, h, _⟩ => by cases h⟩
  | r :: t => by
    have ih := without_sum x t
    have c := cutHead_len x r
    have e1 : sumL (withoutL (r :: t) x) = (cutHead x r).length + sumL (withoutL t x) := sumL_filt _ _
    have e2 : sumL (r :: t) = r.length + sumL t := by simp [sumL]
    rw [e1, e2]
    refine ⟨by omega, fun ⟨q, hq, h1, h2⟩ => ?_⟩
    rcases List.mem_cons.mp hq with rfl | hq
    · have := c.2 h1 h2
      omega
    · have := ih.2 ⟨q, hq, h1, h2⟩
      omega
theorem sumL_ne : ∀ rows : List (List Str), sumL (rows.filter fun r => !r.isEmpty) = sumL rows
  | [] => rfl
  | r :: t => by
    rw [sumL_filt, sumL_ne t]
    simp [sumL]
theorem without_le (rows : List (List Str)) (x : Str) : (withoutL rows x).length ≤ rows.length := Nat.le_trans (List.length_filter_le _ _) (by rw [List.length_map]; exact Nat.le_refl _)
def spPMerge (K : PySem.W.Frag) (CB : Addr) : L2.Sp := fun vs H Q E => ∃ (I : Hp) (M : List (Addr × HO)) (Z : List (Addr × HO) → Prop) (u : V) (rows : List (List Str)), vs = [u] ∧ Own H I M Z ∧ Rp K I u rows ∧ rows.length < 1000 ∧ sumL rows < 100000 ∧
  (∀ l v H' I', mergeL rows = .ok l → Same I I' → Own H' I' M Z → Rp K I' v l → Q v H') ∧
  (∀ l q d H' I', mergeL rows = .error l → Same I I' → I q = none → Own H' I' M Z → I' q = some (.lst (l.map V.str)) → I' d = some (.xd [(("heads" : Str), .ref q)]) → E (.ref CB) (some d) H')
section
variable {P : Program} {w : World} {K : PySem.W.Frag} {mg : Str → Option Value} {base : Heap}
theorem ok_stands_behind {f : Addr} {fd : FuncData} (F : Fun K "stands_behind" "stands_behind" sStands f fd) (T : Bi mg) : FnOk P w K mg base CX0 1 f fd ["name", "rows"] (spStands K) := by
  refine F.ok scStands (fun vs H Q E h => ?_) (fun cdv A outer s H vs Q E hr h => ?_)
  · obtain ⟨_, _, _, _, _, _, rfl, _⟩ := h
    rfl
  · obtain ⟨I, M, Z, x, u, rows, rfl, S, hu, hn, k⟩ := h
    refine ⟨_, (pss_one (ps_ret (pe_callB (c_any (K := K) rfl) (by rfl) T.any_ (by decide +kernel) (pa_cons (pe_lc (own := [("row", 2)]) rfl scStands.nd (pi_listK (K := K) (pv 1)) (blkOk_by (N := nStands) (sc := (defScope sStands)) (by decide +kernel)) (fun _ _ _ _ _ => (pg_name (i := 2) scStands.nd rfl (Or.inl rfl))) (fun _ _ _ _ _ => pts_nil) (fun _ _ _ _ _ => (pe_cmpR (in_seqK (K := K)) (pv 0) (pe_slice (sl_listK (K := K)) (pv 2) (po_some pe_int) po_none) (by rfl)))) pa_nil)))), ?_⟩
    try dsimp only [cxOf]
    obtain ⟨a, vs, rfl, su, ru⟩ := hu.list
    walk_at "x"
    refine x_lcL (l := rows) S su ru (fun i acc I' => acc = ((rows.take i).map fun r => V.bl (decide (x ∈ r.drop 1)))) rfl (fun i r v acc D I' H' hx e rv S' ha j => ?_) (fun D acc I' H' e S' j => ?_)
    · obtain ⟨b, rfl, sb⟩ := rv.strs
      walk_at "x"
      refine ⟨rfl, ?_⟩
      walk_at "x"
      refine x_slI S' (SqL.of (S'.imm _ _ sb)) (fun q I2 H2 e2 hq S2 => ?_)
      have hq : I2 q = some (.lst ((r.drop 1).map V.str)) := by
        rw [hq, show (some (1 : Int)) = some ((1 : Nat) : Int) from rfl, cutV_drop, ← List.map_drop]
      refine x_inStrs (SqL.of (S2.imm _ _ hq)) ?_
      have hi : i < rows.length := (List.getElem?_eq_some_iff.mp hx).1
      refine x_lcE (e.trans e2) S2 ha (Nat.lt_of_lt_of_le (show i < 1000 by omega) (by decide)) ?_
      rw [List.take_add_one, hx, List.map_append, j]
      rfl
    · walk_at "x"
      rw [List.take_length] at j
      have S2 : Own H' I' ((D, .lst ((rows.map fun r => decide (x ∈ r.drop 1)).map V.bl)) :: M) Z := by
        rw [List.map_map]
        rw [j] at S'
        exact S'
      refine x_any (SqL.of (S2.get (i := 0) rfl)) ?_
      have := k H' I' e (S2.drop 0)
      rw [standsB] at this
      rw [List.any_map]
      exact this
theorem ok_without_head {f : Addr} {fd : FuncData} (F : Fun K "without_head" "without_head" sWithout f fd) (T : Bi mg) : FnOk P w K mg base CX0 1 f fd ["rows", "head"] (spWithout K) := by
  refine F.ok scWithout (fun vs H Q E h => ?_) (fun cdv A outer s H vs Q E hr h => ?_)
  · obtain ⟨_, _, _, _, _, _, rfl, _⟩ := h
    rfl
  · obtain ⟨I, M, Z, h, u, rows, rfl, S, hu, hn, hne, k⟩ := h
    refine ⟨_, (pss_cons (ps_setLc (own := [("row", 3)]) (i := 2) rfl scWithout.nd rfl rfl (sw_true rfl rfl rfl (by decide +kernel)) (pi_listK (K := K) (pv 0)) (blkOk_by (N := nWithout) (sc := (defScope sWithout)) (by decide +kernel)) (fun _ _ _ _ _ => (pg_name (i := 3) scWithout.nd rfl (Or.inl rfl))) (fun _ _ _ _ _ => pts_nil) (fun _ _ _ _ _ => (pe_ifExp (pt_cmpR op_eq (pe_ix (ix_listK (K := K)) (pv 3) pe_int (fun _ _ => rfl)) (pv 1) (nomark _)) (pe_slice (sl_listK (K := K)) (pv 3) (po_some pe_int) po_none) (pv 3))))
    (pss_one (ps_ret (pe_lc (own := [("row", 3)]) rfl scWithout.nd (pi_listK (K := K) (pv 2)) (blkOk_by (N := nWithout) (sc := (defScope sWithout)) (by decide +kernel)) (fun _ _ _ _ _ => (pg_name (i := 3) scWithout.nd rfl (Or.inl rfl))) (fun _ _ _ _ _ => (pts_one (pt_truK (K := K) (pv 3)))) (fun _ _ _ _ _ => (pv 3)))))), ?_⟩
    try dsimp only [cxOf]
    obtain ⟨a, vs, rfl, su, ru⟩ := hu.list
    walk_at "x"
    refine x_lcL (l := rows) S su ru (fun i acc I' => Rps K I' acc ((rows.take i).map (cutHead h))) Rps.nil (fun i r v acc D I' H' hx e rv S' ha j => ?_) (fun D acc I' H' e0 S' j => ?_)
    · obtain ⟨b, rfl, sb⟩ := rv.strs
      walk_at "x"
      refine ⟨rfl, ?_⟩
      walk_at "x"
      have hi : i < rows.length := (List.getElem?_eq_some_iff.mp hx).1
      have hr0 : r ≠ [] := hne r (List.mem_of_getElem? hx)
      obtain ⟨c, t, rfl⟩ := List.exists_cons_of_ne_nil hr0
      have fin : ∀ {v2 : V} {I2 H2 : Hp}, Same I' I2 → Own H2 I2 ((D, .lst acc) :: M) Z → Rp K I2 v2 (cutHead h (c :: t)) → LcE I M Z D (fun i acc I' => Rps K I' acc ((rows.take i).map (cutHead h))) (i + 1) v2 H2 := fun {v2 I2 H2} e2 S2 r2 => by
        refine x_lcE (e.trans e2) S2 ha (Nat.lt_of_lt_of_le (show i < 1000 by omega) (by decide)) ?_
        rw [List.take_add_one, hx, List.map_append]
        exact (j.same e2).app (Rps.cons r2 Rps.nil)
      refine x_ixL (v := .str c) (SqL.of (S'.imm _ _ sb)) (show atI _ ((0 : Nat) : Int) = _ from atI_nat rfl) ?_
      walk_at "x"
      refine x_ifD (fun h1 => ?_) (fun h1 => ?_)
      · walk_at "x"
        refine x_slI S' (SqL.of (S'.imm _ _ sb)) (fun q I2 H2 e2 hq S2 => ?_)
        have hq : I2 q = some (.lst (t.map V.str)) := by
          rw [hq, show (some (1 : Int)) = some ((1 : Nat) : Int) from rfl, cutV_drop]
          rfl
        refine fin e2 S2 ?_
        rw [cutHead, List.headD_cons, if_pos h1]
        exact Rp.mkList hq Rps.strs
      · walk_at "x"
        refine fin (Same.refl _) S' ?_
        rw [cutHead, List.headD_cons, if_neg h1]
        exact rv
    · walk_at "x"
      rw [List.take_length] at j
      obtain ⟨I3, e3, h3, S3⟩ := S'.still 0 rfl
      have j3 := j.same e3
      generalize hsh : rows.map (cutHead h) = sh at *
      have hsl : sh.length = rows.length := by rw [← hsh, List.length_map]
      refine x_lcL (l := sh) S3 h3 j3 (fun i acc I' => Rps K I' acc ((sh.take i).filter fun r => !r.isEmpty)) Rps.nil (fun i r v acc D I' H' hx e rv S' ha j => ?_) (fun D acc I' H' e S' j => ?_)
      · have hi : i < sh.length := (List.getElem?_eq_some_iff.mp hx).1
        obtain ⟨b, rfl, sb⟩ := rv.strs
        walk_at "x"
        refine ⟨rfl, ?_⟩
        walk_at "x"
        refine ⟨_, .inl ⟨_, SqL.of (S'.imm _ _ sb), rfl⟩, ?_⟩
        have emp : (r.map V.str).isEmpty = r.isEmpty := by cases r <;> rfl
        rw [emp]
        have step : (sh.take (i + 1)).filter (fun r => !r.isEmpty) = (sh.take i).filter (fun r => !r.isEmpty) ++ (if (!r.isEmpty) = true then [r] else []) := by
          rw [List.take_add_one, hx, List.filter_append]
          congr 1
          cases hb : (!r.isEmpty) <;> simp [hb]
        refine x_if (fun h1 => ?_) (fun h1 => ?_)
        · walk_at "x"
          refine x_lcE e S' ha (Nat.lt_of_lt_of_le (show i < 1000 by omega) (by decide)) ?_
          show Rps K I' _ _
          rw [step, if_pos h1]
          exact j.app (Rps.cons rv Rps.nil)
        · refine x_lcS e S' ha ?_
          show Rps K I' _ _
          rw [step, if_neg (by rw [h1]; decide), List.append_nil]
          exact j
      · walk_at "x"
        obtain ⟨I4, e4, h4, S4⟩ := S'.still 0 rfl
        rw [List.take_length] at j
        exact k _ _ I4 (((e0.trans e3).trans e).trans e4) S4 (Rp.mkList h4 (by rw [withoutL, hsh]; exact j.same e4))
theorem ok_all_heads {f : Addr} {fd : FuncData} (F : Fun K "all_heads" "all_heads" sHeads f fd) (T : Bi mg) : FnOk P w K mg base CX0 1 f fd ["rows"] (spHeads K) := by
  refine F.ok scHeads (fun vs H Q E h => ?_) (fun cdv A outer s H vs Q E hr h => ?_)
  · obtain ⟨_, _, _, _, _, rfl, _⟩ := h
    rfl
  · obtain ⟨I, M, Z, u, rows, rfl, S, hu, hn, hne, k⟩ := h
    refine ⟨_, (pss_cons (ps_set (i := 1) scHeads.nd rfl (Or.inl rfl) (pe_lst pa_nil))
    (pss_cons (ps_for PassesOwn.never rfl (pi_listK (K := K) (pv 0)) (pg_name (i := 2) scHeads.nd rfl (Or.inl rfl))
      (pss_one (ps_if (pt_cmpR (notIn_seqK (K := K)) (pe_ix (ix_listK (K := K)) (pv 2) pe_int (fun _ _ => rfl)) (pv 1) (by rfl))
        (pss_one (ps_expr (pe_bmK (K := K) PySem.F.plainAttrs_list PySem.F.slot_list_append PySem.F.type_list_append mt_append (pv 1) (pa_cons (pe_ix (ix_listK (K := K)) (pv 2) pe_int (fun _ _ => rfl)) pa_nil))))
        pss_nil)))
    (pss_one (ps_ret (pv 1))))), ?_⟩
    try dsimp only [cxOf]
    obtain ⟨a, vs, rfl, su, ru⟩ := hu.list
    walk_at "x"
    refine x_lstM S (show 0 ≤ sizeLine by decide) (fun p H1 S1 => ?_)
    walk_at "x"
    refine x_forL (l := rows) S1 su ru (fun i σ' I' M' => ∃ rv, M' = (p, .lst ((headsL (rows.take i)).map V.str)) :: M ∧ σ' = [some (.ref a), some (.ref p), rv]) ⟨_, rfl, rfl⟩ ?_ ?_
    · rintro i r v σ' I' M' H' hx e rv S' ⟨ov, rfl, rfl⟩
      obtain ⟨b, rfl, sb⟩ := rv.strs
      have hr0 : r ≠ [] := hne r (List.mem_of_getElem? hx)
      obtain ⟨c, t, rfl⟩ := List.exists_cons_of_ne_nil hr0
      have step : headsL (rows.take (i + 1)) = if c ∈ headsL (rows.take i) then headsL (rows.take i) else headsL (rows.take i) ++ [c] := by
        rw [headsL, List.take_add_one, hx, List.foldl_append]
        rfl
      walk_at "x"
      refine x_ixL (v := .str c) (SqL.of (S'.imm _ _ sb)) (show atI _ ((0 : Nat) : Int) = _ from atI_nat rfl) ?_
      walk_at "x"
      refine x_niStrs (SqL.of (S'.get (i := 0) rfl)) ?_
      walk_at "x"
      refine x_ifD (fun h1 => ?_) (fun h1 => ?_)
      · walk_at "x"
        rw [if_pos h1] at step
        exact ⟨I', _, e, S', _, by rw [step], rfl⟩
      · walk_at "x"
        refine x_ixL (v := .str c) (SqL.of (S'.imm _ _ sb)) (show atI _ ((0 : Nat) : Int) = _ from atI_nat rfl) ?_
        walk_at "x"
        have hl : (headsL (rows.take i)).length < 1000 := by
          have := headsL_len (rows.take i) []
          rw [List.length_nil, Nat.zero_add] at this
          have h2 := List.length_take_le i rows
          have hi : i < rows.length := (List.getElem?_eq_some_iff.mp hx).1
          exact Nat.lt_of_le_of_lt (Nat.le_trans this h2) (by omega)
        refine x_appO 0 S' rfl (by rw [List.length_map]; exact Nat.lt_of_lt_of_le hl (by decide)) (fun H2 S2 => ?_)
        rw [if_neg h1] at step
        exact ⟨I', _, e, S2, _, by rw [step, List.map_append]; rfl, rfl⟩
    · rintro σ' I' M' H' e S' ⟨ov, rfl, rfl⟩
      walk_at "x"
      obtain ⟨I4, e4, h4, S4⟩ := S'.still 0 rfl
      rw [List.take_length] at h4
      exact k _ _ I4 (e.trans e4) S4 (Rp.mkList h4 Rps.strs)
theorem ok_free_head {CB f : Addr} {fd : FuncData} (F : Fun K "free_head" "free_head" sFree f fd) (T : Bi mg) (BBarred : ErL P w K mg base "Barred" CB "heads") (Dstands_behind : Df P w K mg base "stands_behind" 1 ["name", "rows"] (spStands K))
    (Dall_heads : Df P w K mg base "all_heads" 1 ["rows"] (spHeads K)) : FnOk P w K mg base (L2.CX P w) 3 f fd ["rows"] (spFree K CB) := by
  obtain ⟨stands_behind_f, stands_behind_d, stands_behind_g, stands_behind_m, stands_behind_k, stands_behind_b⟩ := Dstands_behind.ex; obtain ⟨all_heads_f, all_heads_d, all_heads_g, all_heads_m, all_heads_k, all_heads_b⟩ := Dall_heads.ex
  refine F.okX scFree (fun vs H Q E h => ?_) (fun cdv A outer s H vs Q E hr h => ?_)
  · obtain ⟨_, _, _, _, _, rfl, _⟩ := h
    rfl
  · obtain ⟨I, M, Z, u, rows, rfl, S, hu, hn, hne, k, kx⟩ := h
    refine ⟨_, (pss_cons (ps_for po0 rfl (pi_listK (K := K) (pv 0)) (pg_name (i := 1) scFree.nd rfl (Or.inl rfl))
      (pss_one (ps_if (pt_not (pt_val (pe_call stands_behind_g (hr.mono (by decide)) (by rfl) stands_behind_m stands_behind_k stands_behind_b .nil pass0 (pa_cons (pe_ix (ix_listK (K := K)) (pv 1) pe_int (fun _ _ => rfl)) (pa_cons (pv 0) pa_nil)))))
        (pss_one (ps_ret (pe_ix (ix_listK (K := K)) (pv 1) pe_int (fun _ _ => rfl))))
        pss_nil)))
    (pss_one (ps_erL (K := K) BBarred rfl tk0 (hr.mono (by decide)) (by rfl) (pa_cons (pe_call all_heads_g (hr.mono (by decide)) (by rfl) all_heads_m all_heads_k all_heads_b .nil pass0 (pa_cons (pv 0) pa_nil)) pa_nil)))), ?_⟩
    try dsimp only [cxOf]
    obtain ⟨a, vs, rfl, su, ru⟩ := hu.list
    walk_at "x"
    refine x_forL (l := rows) S su ru (fun i σ' I' M' => ∃ rv, M' = M ∧ σ' = [some (.ref a), rv] ∧ ∀ r ∈ rows.take i, standsB (r.headD "") rows = true) ⟨_, rfl, rfl, by simp⟩ ?_ ?_
    · rintro i r v σ' I' M' H' hx e rv S' ⟨ov, rfl, rfl, j⟩
      obtain ⟨b, rfl, sb⟩ := rv.strs
      have hr0 : r ≠ [] := hne r (List.mem_of_getElem? hx)
      obtain ⟨c, t, rfl⟩ := List.exists_cons_of_ne_nil hr0
      walk_at "x"
      refine x_ixL (v := .str c) (SqL.of (S'.imm _ _ sb)) (show atI _ ((0 : Nat) : Int) = _ from atI_nat rfl) ?_
      walk_at "x"
      refine ⟨I', M', Z, c, _, rows, rfl, S', hu.same e, hn, fun H2 I2 e2 S2 => ?_⟩
      walk_at "x"
      refine x_if (fun h1 => ?_) (fun h1 => ?_)
      · walk_at "x"
        refine ⟨I2, M', e.trans e2, S2, _, rfl, rfl, fun r hr => ?_⟩
        rw [List.take_add_one, hx] at hr
        rcases List.mem_append.mp hr with hr | hr
        · exact j r hr
        · rw [List.mem_singleton.mp hr]
          exact h1
      · walk_at "x"
        refine x_ixL (v := .str c) (SqL.of (S2.imm _ _ (e2 _ _ sb))) (show atI _ ((0 : Nat) : Int) = _ from atI_nat rfl) ?_
        refine k c H2 I2 ?_ (e.trans e2) S2
        have hf : rows.find? (fun r => !standsB (r.headD "") rows) = some (c :: t) := by
          have hi : i < rows.length := (List.getElem?_eq_some_iff.mp hx).1
          rw [← List.take_append_drop i rows, List.find?_append]
          rw [List.take_append_drop]
          rw [List.find?_eq_none.mpr (fun r hr => by rw [j r hr]; decide)]
          rw [List.drop_eq_getElem_cons hi, (List.getElem?_eq_some_iff.mp hx).2]
          rw [List.find?_cons_of_pos (by rw [List.headD_cons, h1]; rfl)]
          rfl
        rw [freeL, hf]
        rfl
    · rintro σ' I' M' H' e S' ⟨ov, rfl, rfl, j⟩
      rw [List.take_length] at j
      walk_at "x"
      refine ⟨I', M', Z, _, rows, rfl, S', hu.same e, hn, hne, fun v H2 I2 e2 S2 r2 => ?_⟩
      obtain ⟨q0, rfl, s0⟩ := r2.strs
      walk_at "x"
      refine x_mkLF S2 (SqL.of (S2.imm _ _ s0)) (fun q d I3 H3 fq e3 hq hd S3 => ?_)
      refine kx q d H3 I3 ?_ ((e.trans e2).trans e3) ((e.trans e2).free fq) S3 hq hd
      rw [freeL, List.find?_eq_none.mpr (fun r hr => by rw [j r hr]; decide)]
      rfl
theorem ok_pmerge {CB f : Addr} {fd : FuncData} (F : Fun K "merge" "merge" sPMerge f fd) (T : Bi mg) (Dfree_head : Dx P w K mg base "free_head" 3 ["rows"] (spFree K CB))
    (Dwithout_head : Df P w K mg base "without_head" 1 ["rows", "head"] (spWithout K)) : FnOk P w K mg base (L2.CX P w) 4 f fd ["rows"] (spPMerge K CB) := by
  obtain ⟨free_head_f, free_head_d, free_head_g, free_head_m, free_head_k, free_head_b⟩ := Dfree_head.ex; obtain ⟨without_head_f, without_head_d, without_head_g, without_head_m, without_head_k, without_head_b⟩ := Dwithout_head.ex
  refine F.okX scPMerge (fun vs H Q E h => ?_) (fun cdv A outer s H vs Q E hr h => ?_)
  · obtain ⟨_, _, _, _, _, rfl, _⟩ := h
    rfl
  · obtain ⟨I, M, Z, u, rows, rfl, S, hu, hn, hs0, k, kx⟩ := h
    refine ⟨_, (pss_cons (ps_setLc (own := [("row", 4)]) (i := 1) rfl scPMerge.nd rfl rfl (sw_true rfl rfl rfl (by decide +kernel)) (pi_listK (K := K) (pv 0)) (blkOk_by (N := nPMerge) (sc := (defScope sPMerge)) (by decide +kernel)) (fun _ _ _ _ _ => (pg_name (i := 4) scPMerge.nd rfl (Or.inl rfl))) (fun _ _ _ _ _ => (pts_one (pt_truK (K := K) (pv 4)))) (fun _ _ _ _ _ => (pv 4)))
    (pss_cons (ps_set (i := 2) scPMerge.nd rfl (Or.inl rfl) (pe_lst pa_nil))
    (pss_cons (ps_while po0 (pt_truK (K := K) (pv 1))
      (pss_cons (ps_set (i := 3) scPMerge.nd rfl (Or.inl rfl) (pe_call free_head_g (hr.mono (by decide)) (by rfl) free_head_m free_head_k free_head_b .nil pk0 (pa_cons (pv 1) pa_nil)))
      (pss_cons (ps_expr (pe_bmK (K := K) PySem.F.plainAttrs_list PySem.F.slot_list_append PySem.F.type_list_append mt_append (pv 2) (pa_cons (pv 3) pa_nil)))
      (pss_one (ps_set (i := 1) scPMerge.nd rfl (Or.inl rfl) (pe_call without_head_g (hr.mono (by decide)) (by rfl) without_head_m without_head_k without_head_b .nil pass0 (pa_cons (pv 1) (pa_cons (pv 3) pa_nil))))))))
    (pss_one (ps_ret (pv 2)))))), ?_⟩
    try dsimp only [cxOf]
    obtain ⟨a, vs, rfl, su, ru⟩ := hu.list
    walk_at "x"
    refine x_lcL (l := rows) S su ru (fun i acc I' => Rps K I' acc ((rows.take i).filter fun r => !r.isEmpty)) Rps.nil (fun i r v acc D I' H' hx e rv S' ha j => ?_) (fun D acc I' H' e0 S' j => ?_)
    · have hi : i < rows.length := (List.getElem?_eq_some_iff.mp hx).1
      obtain ⟨b, rfl, sb⟩ := rv.strs
      walk_at "x"
      refine ⟨rfl, ?_⟩
      walk_at "x"
      refine ⟨_, .inl ⟨_, SqL.of (S'.imm _ _ sb), rfl⟩, ?_⟩
      have emp : (r.map V.str).isEmpty = r.isEmpty := by cases r <;> rfl
      rw [emp]
      have step : (rows.take (i + 1)).filter (fun r => !r.isEmpty) = (rows.take i).filter (fun r => !r.isEmpty) ++ (if (!r.isEmpty) = true then [r] else []) := by
        rw [List.take_add_one, hx, List.filter_append]
        congr 1
        cases hb : (!r.isEmpty) <;> simp [hb]
      refine x_if (fun h1 => ?_) (fun h1 => ?_)
      · walk_at "x"
        refine x_lcE e S' ha (Nat.lt_of_lt_of_le (show i < 1000 by omega) (by decide)) ?_
        show Rps K I' _ _
        rw [step, if_pos h1]
        exact j.app (Rps.cons rv Rps.nil)
      · refine x_lcS e S' ha ?_
        show Rps K I' _ _
        rw [step, if_neg (by rw [h1]; decide), List.append_nil]
        exact j
    · walk_at "x"
      rw [List.take_length] at j
      obtain ⟨I3, e3, h3, S3⟩ := S'.still 0 rfl
      have j3 := j.same e3
      refine x_lstM S3 (show 0 ≤ sizeLine by decide) (fun p H4 S4 => ?_)
      walk_at "x"
      refine x_while (fun m σ' I' M' => ∃ (left : List (List Str)) (done : List Str) (ul : V) (ov : Option V) (n : Nat), M' = (p, .lst (done.map V.str)) :: M ∧ σ' = [some (.ref a), some ul, some (.ref p), ov, none] ∧ Rp K I' ul left ∧ (∀ r ∈ left, r ≠ []) ∧
        left.length < 1000 ∧ sumL left = m ∧ m < n ∧ m + done.length < 100000 ∧ mergeL rows = (mergeP n left).map (done ++ ·)) S4 (sumL (rows.filter fun r => !r.isEmpty)) ?_ ?_
      · refine ⟨_, [], _, _, sumL (rows.filter fun r => !r.isEmpty) + 1, rfl, rfl, Rp.mkList h3 j3, fun r hr e => ?_, Nat.lt_of_le_of_lt (List.length_filter_le _ _) hn, rfl, Nat.lt_succ_self _, ?_, ?_⟩
        · have := (List.mem_filter.mp hr).2
          rw [e] at this
          cases this
        · rw [sumL_ne]
          exact hs0
        · unfold mergeL
          cases mergeP _ _ <;> rfl
      · rintro m σ' I5 M' H5 e5 S5 ⟨left, done, ul, ov, n, rfl, rfl, rl, hnl, hll, rfl, hmn, hmd, em⟩
        obtain ⟨ua, ws, rfl, sl, rw2⟩ := rl.list
        walk_at "x"
        refine ⟨_, .inl ⟨_, SqL.of (S5.imm _ _ sl), rfl⟩, x_wh (fun hne => ?_) (fun hz => ?_)⟩
        · have hl0 : left ≠ [] := fun z => by
            subst z
            rw [rw2.inv0] at hne
            cases hne
          obtain ⟨n1, rfl⟩ : ∃ n1, n = n1 + 1 := ⟨n - 1, by omega⟩
          walk_at "x"
          refine ⟨I5, _, Z, _, left, rfl, S5, rl, hll, hnl, fun x H6 I6 hx e6 S6 => ?_, fun q d H6 I6 hx e6 f6 S6 hq hd => ?_⟩
          · obtain ⟨r, hr, hrx⟩ := free_mem hx
            have hlt := (without_sum x left).2 ⟨r, hr, hnl r hr, hrx⟩
            walk_at "x"
            refine x_appO 0 S6 rfl (by rw [List.length_map, sizeLine_eq]; omega) (fun H7 S7 => ?_)
            walk_at "x"
            refine ⟨I6, _, Z, x, _, left, rfl, S7, rl.same e6, hll, hnl, fun v H8 I8 e8 S8 r8 => ?_⟩
            walk_at "x"
            refine ⟨sumL (withoutL left x), hlt, I8, _, (e5.trans e6).trans e8, S8, withoutL left x, done ++ [x], v, _, n1, by rw [List.map_append]; rfl, rfl, r8, without_ne left x, Nat.lt_of_le_of_lt (without_le left x) hll, rfl, by omega, by rw [List.length_append, List.length_singleton]; omega, ?_⟩
            rw [em, mergeP, if_neg hl0, hx]
            show ((mergeP n1 (withoutL left x)).map (x :: ·)).map (done ++ ·) = _
            cases mergeP n1 (withoutL left x) with
            | error l => rfl
            | ok l => simp [Except.map]
          · refine kx (headsL left) q d H6 I6 ?_ (((e0.trans e3).trans e5).trans e6) (((e0.trans e3).trans e5).free f6) (S6.drop 0) hq hd
            rw [em, mergeP, if_neg hl0, hx]
            rfl
        · have hl0 : left = [] := by
            cases left with
            | nil => rfl
            | cons r t =>
              obtain ⟨v, ws2, rfl, _⟩ := rw2.inv
              cases hz
          subst hl0
          obtain ⟨n1, rfl⟩ : ∃ n1, n = n1 + 1 := ⟨n - 1, by omega⟩
          walk_at "x"
          obtain ⟨I6, e6, h6, S6⟩ := S5.still 0 rfl
          refine k done _ _ I6 ?_ (((e0.trans e3).trans e5).trans e6) S6 (Rp.mkList h6 Rps.strs)
          rw [em, mergeP, if_pos rfl]
          simp [Except.map]
end
end Dz

/-! The program: the order of a class. -/
namespace Dz
open PySem L2
local macro_rules | `(tactic| walk_at "sm") => `(tactic| first | exact Same.refl _ | assumption | (refine' Same.trans ?_ (by assumption); walk_at "sm"))
local macro_rules | `(tactic| walk_at "own") => `(tactic| first
  | exact upd_same
  | assumption
  | (apply Own.get (i := 0); assumption; with_unfolding_all rfl)
  | (apply Own.get (i := 1); assumption; with_unfolding_all rfl)
  | (apply Own.get (i := 2); assumption; with_unfolding_all rfl)
  | (apply Own.get (i := 3); assumption; with_unfolding_all rfl)
  | (apply Own.get (i := 4); assumption; with_unfolding_all rfl)
  | (apply Own.get (i := 5); assumption; with_unfolding_all rfl))
local macro_rules | `(tactic| walk_at "fix") => `(tactic| first
  | assumption
  | (apply Own.imm; assumption; assumption)
  | (apply Own.imm; assumption; apply (show ∀ {I J : Hp}, Same I J → ∀ {a : Addr} {o : HO}, I a = some o → J a = some o from fun s _ _ e => s _ _ e); rotate_left; assumption; walk_at "sm"))
local macro_rules | `(tactic| walk_at "sq") => `(tactic| first
  | (apply SqL.of; walk_at "own")
  | (apply SqL.of; walk_at "fix")
  | (apply Same.seq; (apply Own.imm; assumption); first | assumption | (apply Same.seq; rotate_left; assumption; walk_at "sm")))
local macro_rules | `(tactic| walk_at "sqt") => `(tactic| first
  | (apply SqT.of; walk_at "own")
  | (apply SqT.of; walk_at "fix")
  | (apply Same.seqT; (apply Own.imm; assumption); first | assumption | (apply Same.seqT; rotate_left; assumption; walk_at "sm")))
local macro_rules | `(tactic| walk_at "ar") => `(tactic| first | assumption | omega | decide | exact wide_div (by assumption) (by assumption) (by decide) (by decide) | (constructor <;> omega) | (left; constructor <;> omega) | (right; constructor <;> omega))
local macro_rules | `(tactic| walk_at "x1") => `(tactic| with_reducible first
  | refine' x_seq ?_
  | refine' x_asg ?_
  | refine' x_name ?_
  | (refine' x_var ?x_h ?_; (case x_h => with_unfolding_all rfl))
  | refine' x_c ?_
  | refine' x_op ?_
  | refine' x_cons ?_
  | refine' x_nil ?_
  | refine' x_cb ?_
  | refine' x_ifS ?_
  | refine' x_test ?_
  | refine' x_and ?_
  | refine' x_or ?_
  | refine' x_not ?_
  | refine' x_bl ?_
  | refine' x_rI0 ?_
  | refine' x_eqI ?_
  | refine' x_neI ?_
  | refine' x_eqS ?_
  | refine' x_neS ?_
  | refine' x_eqB ?_
  | refine' x_neB ?_
  | refine' x_intI ?_
  | refine' x_intB ?_
  | refine' x_gSub ?_
  | refine' x_gCons ?_
  | refine' x_gNil ?_
  | refine' x_ret ?_
  | refine' x_retN ?_
  | refine' x_next ?_
  | refine' x_drop ?_
  | refine' x_call ?_
  | refine' x_sl ?_
  | refine' x_noPart ?_
  | refine' x_part ?_
  | refine' x_intE ?_
  | refine' x_tup ?_
  | refine' x_lst ?_
  | refine' x_iList ?_
  | refine' x_iTup ?_
  | refine' x_range1 ?_
  | refine' x_tdget ?_
  | refine' x_tdin ?_
  | refine' x_tdnotin ?_
  | refine' x_sdput ?_
  | refine' x_trev ?_
  | refine' x_for ?_
  | refine' x_lc ?_
  | refine' x_yes ?_
  | refine' x_un ?_
  | refine' x_bm ?_
  | refine' x_bm0 ?_
  | refine' x_tB ?_
  | refine' x_notV ?_
  | refine' x_andV ?_
  | refine' x_orV ?_
  | refine' x_ifE ?_
  | refine' x_isN ?_
  | refine' x_notN ?_
  | refine' x_inSg ?_
  | refine' x_notInSg ?_
  | refine' x_min2 ?_
  | refine' x_tyS ?_
  | refine' x_ifTrue ?_
  | refine' x_ifFalse ?_
  | refine' x_ifN ?_)
local macro_rules | `(tactic| walk_at "x2") => `(tactic| first
  | ((with_reducible refine' x_mod ?x_h ?_); (case x_h => walk_at "ar"))
  | ((with_reducible refine' x_rI ?x_h ?_); (case x_h => walk_at "ar"))
  | ((with_reducible refine' x_lenL ?x_h ?_); (case x_h => walk_at "sq"))
  | ((with_reducible refine' x_lenT ?x_h ?_); (case x_h => walk_at "sqt"))
  | ((with_reducible refine' x_ixL ?x_h ?x_a ?_); (case x_h => walk_at "sq"); (case x_a => first | with_unfolding_all rfl | assumption))
  | ((with_reducible refine' x_ixT ?x_h ?x_a ?_); (case x_h => walk_at "sqt"); (case x_a => first | with_unfolding_all rfl | assumption))
  | ((with_reducible refine' x_refL ?x_h ?_); (case x_h => walk_at "sq"))
  | ((with_reducible refine' x_refT ?x_h ?_); (case x_h => walk_at "sqt"))
  | ((with_reducible refine' x_gTup ?x_h ?x_a ?_); (case x_h => walk_at "sqt"); (case x_a => rfl))
  | ((with_reducible refine' x_tyL ?x_h ?_); (case x_h => walk_at "sq")))
local macro_rules | `(tactic| walk_at "set") => `(tactic| (first
  | (refine x_setO 0 (by assumption) (by with_unfolding_all rfl) (by with_unfolding_all rfl) ?_)
  | (refine x_setO 1 (by assumption) (by with_unfolding_all rfl) (by with_unfolding_all rfl) ?_)
  | (refine x_setO 2 (by assumption) (by with_unfolding_all rfl) (by with_unfolding_all rfl) ?_)
  | (refine x_setO 3 (by assumption) (by with_unfolding_all rfl) (by with_unfolding_all rfl) ?_)))
local macro_rules | `(tactic| walk_at "x") => `(tactic| repeat first | walk_at "x1" | walk_at "x2")
local macro_rules | `(tactic| walk_at "y1") => `(tactic| with_reducible first
  | refine' x_chain ?_
  | refine' x_iS ?_
  | refine' x_strE ?_)
local macro_rules | `(tactic| walk_at "y2") => `(tactic| first
  | ((with_reducible refine' x_lenS ?x_h ?_); (case x_h => first | assumption | omega)))
local macro_rules | `(tactic| walk_at "x") => `(tactic| repeat first | walk_at "x1" | walk_at "y1" | walk_at "x2" | walk_at "y2")
local macro_rules | `(tactic| walk_at "y3") => `(tactic| with_reducible first
  | refine' x_rs ?_
  | refine' x_starts ?_
  | refine' x_ends ?_
  | refine' x_tru ?_
  | refine' x_rsL ?_)
local macro_rules | `(tactic| walk_at "x") => `(tactic| repeat first | walk_at "x1" | walk_at "y1" | walk_at "y3" | walk_at "x2" | walk_at "y2")
abbrev sOrderOf : Stmt := (PySem.Challenge.pw_everydoor_k12_orders_by_other_names.main.body.getD 5 (.Pass ⟨0, 0, 0, 0⟩))
abbrev nOrderOf : List Str := ["bases", "name", "known", "rows", "base"]
theorem scOrderOf : FnScope nOrderOf ["bases", "name", "known"] (defScope sOrderOf) := ⟨rfl, rfl, rfl, by decide +kernel, rfl, by decide +kernel, by decide +kernel⟩
abbrev sLinearize : Stmt := (PySem.Challenge.pw_everydoor_k12_orders_by_other_names.main.body.getD 4 (.Pass ⟨0, 0, 0, 0⟩))
abbrev nLinearize : List Str := ["bases", "name"]
theorem scLinearize : FnScope nLinearize ["bases", "name"] (defScope sLinearize) := ⟨rfl, rfl, rfl, by decide +kernel, rfl, by decide +kernel, by decide +kernel⟩
/-- the orders that are known -/
structure KnOk (L : Ords) (rk : Str → Nat) (kn : Ords) : Prop where
  nd : (kn.map (·.1)).Nodup
  ok : ∀ z ∈ kn.map (·.1), z ∈ L.map (·.1) ∧ ordL L rk z = .ok (lookO kn z)
theorem KnOk.len {L : Ords} {rk : Str → Nat} {kn : Ords} (h : KnOk L rk kn) : kn.length ≤ L.length := by
  have := nodup_le' (m := L.map (·.1)) h.nd fun z hz => (h.ok z hz).1
  rwa [List.length_map, List.length_map] at this
theorem KnOk.put {L : Ords} {rk : Str → Nat} {kn : Ords} {x : Str} {l : List Str} (h : KnOk L rk kn) (hn : x ∉ kn.map (·.1)) (hx : x ∈ L.map (·.1)) (ho : ordL L rk x = .ok l) : KnOk L rk (kn ++ [(x, l)]) := by
  have nd : ((kn ++ [(x, l)]).map (·.1)).Nodup := by
    rw [List.map_append, List.map_singleton]
    refine List.nodup_append.mpr ⟨h.nd, by simp, fun a ha b hb => ?_⟩
    rw [List.mem_singleton.mp hb]
    intro e
    have e : a = x := e
    exact hn (e ▸ ha)
  refine ⟨nd, fun z hz => ?_⟩
  by_cases q : z ∈ kn.map (·.1)
  · rw [lookO_app q]
    exact h.ok z q
  · rw [List.map_append, List.map_singleton] at hz
    have e : z = x := (List.mem_append.mp hz).elim (fun z => absurd z q) fun z => List.mem_singleton.mp z
    subst e
    rw [lookO_at nd (List.mem_append_right _ (List.mem_singleton.mpr rfl))]
    exact ⟨hx, ho⟩
theorem rowsP_step {f : Str → Except (List Str) (List Str)} {b : Str} {r : List Str} (hf : f b = .ok r) : ∀ {l : List Str} {i : Nat} {ls : List (List Str)}, l[i]? = some b → rowsP f (l.take i) = .ok ls → rowsP f (l.take (i + 1)) = .ok (ls ++ [r])
  | [], i, ls, h, _ => by simp at h
  | a :: t, 0, ls, h, h2 => by
    have : a = b := by simpa using h
    subst this
    cases h2
    show rowsP f [a] = _
    rw [rowsP, hf]
    rfl
  | a :: t, i + 1, ls, h, h2 => by
    rw [List.take_succ_cons, rowsP] at h2
    rw [List.take_succ_cons, rowsP]
    cases e : f a with
    | error z => rw [e] at h2; cases h2
    | ok l0 =>
      rw [e] at h2
      dsimp only at h2 ⊢
      cases e2 : rowsP f (t.take i) with
      | error z => rw [e2] at h2; cases h2
      | ok l1 =>
        rw [e2] at h2
        cases h2
        rw [rowsP_step hf (by simpa using h) e2]
        rfl
theorem rowsP_err {f : Str → Except (List Str) (List Str)} {b : Str} {z : List Str} (hf : f b = .error z) : ∀ {l : List Str} {i : Nat} {ls : List (List Str)}, l[i]? = some b → rowsP f (l.take i) = .ok ls → rowsP f l = .error z
  | [], i, ls, h, _ => by simp at h
  | a :: t, 0, ls, h, h2 => by
    have : a = b := by simpa using h
    subst this
    rw [rowsP, hf]
  | a :: t, i + 1, ls, h, h2 => by
    rw [List.take_succ_cons, rowsP] at h2
    rw [rowsP]
    cases e : f a with
    | error y => rw [e] at h2; cases h2
    | ok l0 =>
      rw [e] at h2
      dsimp only at h2 ⊢
      cases e2 : rowsP f (t.take i) with
      | error y => rw [e2] at h2; cases h2
      | ok l1 => rw [rowsP_err hf (by simpa using h) e2]
def FreshV (I0 : Hp) (vs : List V) : Prop := ∀ v ∈ vs, ∃ p, v = .ref p ∧ I0 p = none
theorem valV_mem : ∀ {kvs : List (Key × V)} {k : Key} {v : V}, valV kvs k = some v → v ∈ kvs.map (·.2)
  | [], k, v, h => by cases h
  | kv :: t, k, v, h => by
    by_cases e : kv.1 = k
    · rw [valV_pos e] at h
      rw [← Option.some.inj h]
      exact List.mem_cons_self ..
    · rw [valV_neg e] at h
      exact List.mem_cons_of_mem _ (valV_mem h)
theorem x_catF {H I : Hp} {M : List (Addr × HO)} {Z : List (Addr × HO) → Prop} {Q : VK} {p q : Addr} {xs ys : List V} (S : Own H I M Z) (h1 : H p = some (.lst xs)) (h2 : H q = some (.lst ys)) (z : xs.length + ys.length ≤ sizeLine)
    (k : ∀ r I' H', I r = none → Same I I' → I' r = some (.lst (xs ++ ys)) → Own H' I' M Z → Q (.ref r) H') : rCat (.ref p) (.ref q) H Q :=
  ⟨p, q, xs, ys, rfl, rfl, h1, h2, z, fun r hr => S.new hr fun I' a b c => k r I' _ (S.imm.free hr) a b c⟩
def spOrder (K : PySem.W.Frag) (CB : Addr) (r : Nat) : L2.Sp := fun vs H Q E => ∃ (I0 I : Hp) (M : List (Addr × HO)) (Z : List (Addr × HO) → Prop) (pb pk : Addr) (x : Str) (kvs kks : List (Key × V)) (L kn : Ords) (rk : Str → Nat), vs = [.ref pb, .str x, .ref pk] ∧ Own H I ((pk, .dK kks) :: M) Z ∧ I pb = some (.dK kvs) ∧
  OrdsAt K I kvs L ∧ OrdsAt K I kks kn ∧ TblOk L rk ∧ KnOk L rk kn ∧ x ∈ L.map (·.1) ∧ rk x < r ∧ Same I0 I ∧ FreshV I0 (kks.map (·.2)) ∧
  (∀ l v H' I' kks' kn', ordL L rk x = .ok l → Same I I' → Own H' I' ((pk, .dK kks') :: M) Z → OrdsAt K I' kks' kn' → KnOk L rk kn' → (∀ z ∈ kn'.map (·.1), z ∈ kn.map (·.1) ∨ rk z ≤ rk x) → FreshV I0 (kks'.map (·.2)) → FreshV I0 [v] → Rp K I' v l → Q v H') ∧
  (∀ l q d H' I' kks', ordL L rk x = .error l → Same I I' → I0 q = none → Own H' I' ((pk, .dK kks') :: M) Z → I' q = some (.lst (l.map V.str)) → I' d = some (.xd [(("heads" : Str), .ref q)]) → E (.ref CB) (some d) H')
section
variable {P : Program} {w : World} {K : PySem.W.Frag} {mg : Str → Option Value} {base : Heap}
theorem ok_order_of {CB f : Addr} {fd : FuncData} (F : Fun K "order_of" "order_of" sOrderOf f fd) (T : Bi mg) (Dmerge : Dx P w K mg base "merge" 4 ["rows"] (spPMerge K CB)) (order_of_m : mg "order_of" = some (.ref f)) (order_of_k : PySem.W.keepIn K (.ref f) = true) (order_of_b : Binds K fd ["bases", "name", "known"] []) :
    ∀ r : Nat, FnOk P w K mg base (L2.CX P w) (5 + r) f fd ["bases", "name", "known"] (spOrder K CB r)
  | 0 => by
    refine FnOk.mono (j := 1) ?_ (by decide)
    refine F.okX scOrderOf (fun vs H Q E h => ?_) (fun cdv A outer s H vs Q E hr h => ?_)
    · obtain ⟨_, _, _, _, _, _, _, _, _, _, _, _, rfl, _⟩ := h
      rfl
    · obtain ⟨_, _, _, _, _, _, _, _, _, _, _, rk, _, _, _, _, _, _, _, _, hlt, _⟩ := h
      exact absurd hlt (Nat.not_lt_zero _)
  | r + 1 => by
    have order_of_g := ok_order_of F T Dmerge order_of_m order_of_k order_of_b r
    obtain ⟨merge_f, merge_d, merge_g, merge_m, merge_k, merge_b⟩ := Dmerge.ex
    refine F.okX (k := 5 + r) scOrderOf (fun vs H Q E h => ?_) (fun cdv A outer s H vs Q E hr h => ?_)
    · obtain ⟨_, _, _, _, _, _, _, _, _, _, _, _, rfl, _⟩ := h
      rfl
    · obtain ⟨I0, I, M, Z, pb, pk, x, kvs, kks, L, kn, rk, rfl, S, hb, ob, okn, TT, KN, hx, hlt, E0, fr0, k, kx⟩ := h
      refine ⟨_, (C8.pss_cut (ps_if (pt_cmp (pc_dnotin (hu_of hr) (pv 1) (pv 2)))
      (pss_cons (ps_setLcx (own := [("base", 4)]) (i := 3) rfl scOrderOf.nd rfl rfl pa0 rfl rfl (sw_true rfl rfl rfl (by decide +kernel)) (pi_listK (K := K) (pe_dget (hu_of hr) (pv 0) (pv 1) (fun _ _ => rfl))) (blkOk_by (N := nOrderOf) (sc := (defScope sOrderOf)) (by decide +kernel)) (fun _ _ _ _ _ => (pg_name (i := 4) scOrderOf.nd rfl (Or.inl rfl))) (fun _ _ _ _ _ => pts_nil) (fun _ _ _ _ _ _ ps => (pe_call order_of_g (hr.mono (by omega)) (by rfl) order_of_m order_of_k order_of_b .nil ps (pa_cons (pv 0) (pa_cons (pv 4) (pa_cons (pv 2) pa_nil))))))
      (pss_cons (ps_expr (pe_bmK (K := K) PySem.F.plainAttrs_list PySem.F.slot_list_append PySem.F.type_list_append mt_append (pv 3) (pa_cons (pe_dget (hu_of hr) (pv 0) (pv 1) (fun _ _ => rfl)) pa_nil)))
      (pss_one (ps_dput (hu_of hr) (pv 2) (pv 1) (pe_op op_cat (pe_lst (pa_cons (pv 1) pa_nil)) (pe_call merge_g (hr.mono (by omega)) (by rfl) merge_m merge_k merge_b .nil pk0 (pa_cons (pv 3) pa_nil))) rfl))))
      pss_nil)
    (pss_one (ps_ret (pe_dget (hu_of hr) (pv 2) (pv 1) (fun _ _ => rfl))))), ?_⟩
      try dsimp only [cxOf]
      refine x_cut (fun σ' H' => ∃ (v3 v4 : Option V) (I' : Hp) (kks' : List (Key × V)) (kn' : Ords), σ' = [some (.ref pb), some (.str x), some (.ref pk), v3, v4] ∧ Same I I' ∧ Own H' I' ((pk, .dK kks') :: M) Z ∧ OrdsAt K I' kks' kn' ∧ KnOk L rk kn' ∧ x ∈ kn'.map (·.1) ∧ (∀ z ∈ kn'.map (·.1), z ∈ kn.map (·.1) ∨ rk z ≤ rk x) ∧ FreshV I0 (kks'.map (·.2))) ?_ ?_
      · walk_at "x"
        refine x_diS (S.get (i := 0) rfl) ?_
        by_cases hk : x ∈ kn.map (·.1)
        · obtain ⟨v0, ev0, _⟩ := okn.get hk
          rw [ev0]
          refine ⟨_, rfl, ?_⟩
          exact ⟨none, none, I, kks, kn, rfl, Same.refl _, S, okn, KN, hk, fun z hz => .inl hz, fr0⟩
        rw [okn.none hk]
        refine ⟨_, rfl, ?_⟩
        refine x_ifN ?_
        refine x_if (c := (none : Option V).isSome) (fun h => nomatch h) (fun _ => ?_)
        obtain ⟨vb, evb, rvb⟩ := ob.get hx
        obtain ⟨ba, rfl, hba⟩ := rvb.strs
        walk_at "x"
        refine x_dgS (S.imm _ _ hb) evb ?_
        walk_at "x"
        refine x_lcLm (l := lookO L x) S hba Rps.strs (fun i acc I' M' => ∃ (kks' : List (Key × V)) (kn' : Ords) (ls : List (List Str)), M' = (pk, .dK kks') :: M ∧ rowsP (ordL L rk) ((lookO L x).take i) = .ok ls ∧ Rps K I' acc ls ∧ OrdsAt K I' kks' kn' ∧ KnOk L rk kn' ∧
          (∀ z ∈ kn'.map (·.1), z ∈ kn.map (·.1) ∨ rk z < rk x) ∧ FreshV I0 (kks'.map (·.2))) ⟨kks, kn, [], rfl, rfl, Rps.nil, okn, KN, fun z hz => .inl hz, fr0⟩ ?_ ?_
        · rintro i b v acc D I1 M1 H1 hbi e1 rv S1 hl ⟨kks1, kn1, ls, rfl, hrow, racc, ok1, KN1, hg1, fr1⟩
          have hbm := List.mem_of_getElem? hbi
          have hbu := TT.up x hx b hbm
          have hi := (List.getElem?_eq_some_iff.mp hbi).1
          have h4 := TT.few x hx
          obtain rfl := rv.str
          walk_at "x"
          refine ⟨rfl, ?_⟩
          walk_at "x"
          refine ⟨I0, I1, (D, .lst acc) :: M, Z, pb, pk, b, kvs, kks1, L, kn1, rk, rfl, S1.perm (List.Perm.swap _ _ _), e1 _ _ hb, ob.same e1, ok1, TT, KN1, hbu.1, by omega, E0.trans e1, fr1, fun l v H2 I2 kks2 kn2 ho e2 S2 ok2 KN2 hg2 fr2 _ rl => ?_, fun l q d H2 I2 kks2 ho e2 f2 S2 hq hd => ?_⟩
          · refine x_lcEm (e1.trans e2) (S2.perm (List.Perm.swap _ _ _)) hl (szl (by omega)) ?_
            exact ⟨kks2, kn2, ls ++ [l], rfl, rowsP_step ho hbi hrow, (racc.same e2).app (Rps.cons rl Rps.nil), ok2, KN2, fun z hz => (hg2 z hz).elim (fun q => hg1 z q) fun q => .inr (by omega), fr2⟩
          · refine kx l q d H2 I2 kks2 ?_ (e1.trans e2) f2 (S2.drop 1) hq hd
            rw [ordL_eq TT hx, rowsP_err ho hbi hrow]
        · rintro D acc I1 M1 H1 e1 S1 ⟨kks1, kn1, ls, rfl, hrow, racc, ok1, KN1, hg1, fr1⟩
          rw [List.take_length] at hrow
          have hx1 : x ∉ kn1.map (·.1) := fun z => (hg1 x z).elim hk fun q => absurd q (Nat.lt_irrefl _)
          have h4 := TT.few x hx
          have hlen : ls.length = (lookO L x).length := by
            clear racc
            revert hrow
            generalize lookO L x = bs
            intro hrow
            induction bs generalizing ls with
            | nil => cases hrow; rfl
            | cons b t ih =>
              rw [rowsP] at hrow
              cases e : ordL L rk b with
              | error z => rw [e] at hrow; cases hrow
              | ok l0 =>
                rw [e] at hrow
                dsimp only at hrow
                cases e2 : rowsP (ordL L rk) t with
                | error z => rw [e2] at hrow; cases hrow
                | ok l1 =>
                  rw [e2] at hrow
                  cases hrow
                  rw [List.length_cons, List.length_cons, ih l1 e2]
          walk_at "x"
          refine x_dgS ((e1.trans S1.imm) _ _ hb) evb ?_
          walk_at "x"
          refine x_appO 0 S1 rfl (szl (by rw [racc.len]; omega)) (fun H2 S2 => ?_)
          walk_at "x"
          refine x_lstI S2 (show 1 ≤ sizeLine by decide) (fun q3 I3 H3 e3 h3 S3 => ?_)
          obtain ⟨I4, e4, h4', S4⟩ := S3.still 0 rfl
          have rr : Rp K I4 (.ref D) (ls ++ [lookO L x]) := Rp.mkList h4' (((racc.same (e3.trans e4))).app (Rps.cons (Rp.mkList (((e1.trans e3).trans e4) _ _ hba) Rps.strs) Rps.nil))
          have hrl : ∀ r ∈ ls, r.length ≤ 40 := rowsP_all hrow fun b hb r hr => ordL_len TT (TT.up x hx b hb).1 hr
          have hsum : sumL (ls ++ [lookO L x]) < 100000 := by
            have e0 : sumL (ls ++ [lookO L x]) = sumL ls + (lookO L x).length := by simp [sumL]
            have e1 : ∀ ms : List (List Str), (∀ r ∈ ms, r.length ≤ 40) → sumL ms ≤ 40 * ms.length := fun ms => by
              induction ms with
              | nil => intro _; exact Nat.le_refl _
              | cons r t ih =>
                intro hh
                have h1 := hh r (List.mem_cons_self ..)
                have h2 := ih fun y hy => hh y (List.mem_cons_of_mem _ hy)
                have e : sumL (r :: t) = r.length + sumL t := by simp [sumL]
                rw [e, List.length_cons]
                omega
            have := e1 ls hrl
            rw [e0]
            omega
          walk_at "x"
          refine ⟨I4, (pk, .dK kks1) :: M, Z, _, ls ++ [lookO L x], rfl, S4, rr, by rw [List.length_append, List.length_singleton]; omega, hsum, fun l v H5 I5 hm e5 S5 rl => ?_, fun l q d H5 I5 hm e5 f5 S5 hq hd => ?_⟩
          · obtain ⟨qa, rfl, hqa⟩ := rl.strs
            have ho : ordL L rk x = .ok (x :: l) := by
              rw [ordL_eq TT hx, hrow]
              show (mergeL (ls ++ [lookO L x])).map (x :: ·) = _
              rw [hm]
              rfl
            have hol := ordL_len TT hx ho
            refine x_catF S5 (S5.imm _ _ ((e4.trans e5) _ _ h3)) (S5.imm _ _ hqa) (by rw [List.length_map]; exact sz (by simp at hol ⊢; omega)) (fun q6 I6 H6 f6 e6 h6 S6 => ?_)
            have f60 : I0 q6 = none := (E0.trans ((e1.trans e3).trans (e4.trans e5))).free f6
            walk_at "x"
            have ok6 := ok1.same (((e3.trans e4).trans e5).trans e6)
            have hkl : kks1.length ≤ 40 := by
              have h1 := ok1.len
              have h2 := KN1.len
              have h3 := TT.siz
              omega
            refine x_dpS 0 S6 rfl (szl (by omega)) (fun H7 S7 => ?_)
            have r6 : Rp K I6 (.ref q6) (x :: l) := Rp.mkList h6 (Rps.strs (l := x :: l))
            refine ⟨_, _, I6, _, kn1 ++ [(x, x :: l)], rfl, (e1.trans e3).trans ((e4.trans e5).trans e6), S7, ok6.put hx1 r6, KN1.put hx1 hx ho, ?_, fun z hz => ?_, fun v hv => ?_⟩
            · rw [List.map_append]
              exact List.mem_append_right _ (List.mem_singleton.mpr rfl)
            · rw [List.map_append] at hz
              rcases List.mem_append.mp hz with hz | hz
              · exact (hg1 z hz).elim .inl fun q => .inr (Nat.le_of_lt q)
              · have : z = x := List.mem_singleton.mp hz
                rw [this]
                exact .inr (Nat.le_refl _)
            · rw [putK_new _ (ok1.none hx1), List.map_append] at hv
              rcases List.mem_append.mp hv with hv | hv
              · exact fr1 v hv
              · rw [List.mem_singleton.mp hv]
                exact ⟨q6, rfl, f60⟩
          · refine kx l q d H5 I5 kks1 ?_ ((e1.trans e3).trans (e4.trans e5)) ((E0.trans ((e1.trans e3).trans e4)).free f5) S5 hq hd
            rw [ordL_eq TT hx, hrow]
            show (mergeL (ls ++ [lookO L x])).map (x :: ·) = _
            rw [hm]
            rfl
      · rintro σ1 H1 ⟨v3, v4, I1, kks', kn', rfl, e1, S1, ok1, KN1, hx1, hg, fr1⟩
        walk_at "x"
        obtain ⟨v, ev, rv⟩ := ok1.get hx1
        refine x_dgS (S1.get (i := 0) rfl) ev ?_
        exact k _ v H1 I1 kks' kn' (KN1.ok x hx1).2 e1 S1 ok1 KN1 hg fr1 (fun w hw => by rw [List.mem_singleton.mp hw]; exact fr1 v (valV_mem ev)) rv
def spLinear (K : PySem.W.Frag) (CB : Addr) : L2.Sp := fun vs H Q E => ∃ (I : Hp) (M : List (Addr × HO)) (Z : List (Addr × HO) → Prop) (pb : Addr) (x : Str) (kvs : List (Key × V)) (L : Ords) (rk : Str → Nat), vs = [.ref pb, .str x] ∧ Own H I M Z ∧ I pb = some (.dK kvs) ∧
  OrdsAt K I kvs L ∧ TblOk L rk ∧ x ∈ L.map (·.1) ∧
  (∀ l v H' I', ordL L rk x = .ok l → Same I I' → Own H' I' M Z → FreshV I [v] → Rp K I' v l → Q v H') ∧
  (∀ l q d H' I', ordL L rk x = .error l → Same I I' → I q = none → Own H' I' M Z → I' q = some (.lst (l.map V.str)) → I' d = some (.xd [(("heads" : Str), .ref q)]) → E (.ref CB) (some d) H')
theorem ok_linearize {CB f : Addr} {fd : FuncData} (F : Fun K "linearize" "linearize" sLinearize f fd) (T : Bi mg) (Dorder_of : Dx P w K mg base "order_of" 26 ["bases", "name", "known"] (spOrder K CB 21)) : FnOk P w K mg base (L2.CX P w) 27 f fd ["bases", "name"] (spLinear K CB) := by
  obtain ⟨order_of_f, order_of_d, order_of_g, order_of_m, order_of_k, order_of_b⟩ := Dorder_of.ex
  refine F.okX scLinearize (fun vs H Q E h => ?_) (fun cdv A outer s H vs Q E hr h => ?_)
  · obtain ⟨_, _, _, _, _, _, _, _, rfl, _⟩ := h
    rfl
  · obtain ⟨I, M, Z, pb, x, kvs, L, rk, rfl, S, hb, ob, TT, hx, k, kx⟩ := h
    refine ⟨_, (pss_one (ps_ret (pe_call order_of_g (hr.mono (by decide)) (by rfl) order_of_m order_of_k order_of_b .nil pk0 (pa_cons (pv 0) (pa_cons (pv 1) (pa_cons pe_dnewK pa_nil)))))), ?_⟩
    try dsimp only [cxOf]
    walk_at "x"
    refine x_dnewM S (fun p H1 S1 => ?_)
    walk_at "x"
    refine ⟨I, I, M, Z, pb, p, x, kvs, [], L, [], rk, rfl, S1, hb, ob, ⟨rfl, Rps.nil⟩, TT, ⟨by simp, fun z hz => by cases hz⟩, hx, by have := TT.bnd x hx; omega, Same.refl _, fun v hv => (by cases hv), fun l v H' I' kks' kn' ho e S' _ _ _ _ fv rv => k l v H' I' ho e (S'.drop 0) fv rv, fun l q d H' I' kks' ho e fq S' hq hd => kx l q d H' I' ho e fq (S'.drop 0) hq hd⟩
end
end Dz

/-! The law's question: the order, or the heads. -/
namespace Dz
open PySem L2
local macro_rules | `(tactic| walk_at "sm") => `(tactic| first | exact Same.refl _ | assumption | (refine' Same.trans ?_ (by assumption); walk_at "sm"))
local macro_rules | `(tactic| walk_at "own") => `(tactic| first
  | exact upd_same
  | assumption
  | (apply Own.get (i := 0); assumption; with_unfolding_all rfl)
  | (apply Own.get (i := 1); assumption; with_unfolding_all rfl)
  | (apply Own.get (i := 2); assumption; with_unfolding_all rfl)
  | (apply Own.get (i := 3); assumption; with_unfolding_all rfl)
  | (apply Own.get (i := 4); assumption; with_unfolding_all rfl)
  | (apply Own.get (i := 5); assumption; with_unfolding_all rfl))
local macro_rules | `(tactic| walk_at "fix") => `(tactic| first
  | assumption
  | (apply Own.imm; assumption; assumption)
  | (apply Own.imm; assumption; apply (show ∀ {I J : Hp}, Same I J → ∀ {a : Addr} {o : HO}, I a = some o → J a = some o from fun s _ _ e => s _ _ e); rotate_left; assumption; walk_at "sm"))
local macro_rules | `(tactic| walk_at "sq") => `(tactic| first
  | (apply SqL.of; walk_at "own")
  | (apply SqL.of; walk_at "fix")
  | (apply Same.seq; (apply Own.imm; assumption); first | assumption | (apply Same.seq; rotate_left; assumption; walk_at "sm")))
local macro_rules | `(tactic| walk_at "sqt") => `(tactic| first
  | (apply SqT.of; walk_at "own")
  | (apply SqT.of; walk_at "fix")
  | (apply Same.seqT; (apply Own.imm; assumption); first | assumption | (apply Same.seqT; rotate_left; assumption; walk_at "sm")))
local macro_rules | `(tactic| walk_at "ar") => `(tactic| first | assumption | omega | decide | exact wide_div (by assumption) (by assumption) (by decide) (by decide) | (constructor <;> omega) | (left; constructor <;> omega) | (right; constructor <;> omega))
local macro_rules | `(tactic| walk_at "x1") => `(tactic| with_reducible first
  | refine' x_seq ?_
  | refine' x_asg ?_
  | refine' x_name ?_
  | (refine' x_var ?x_h ?_; (case x_h => with_unfolding_all rfl))
  | refine' x_c ?_
  | refine' x_op ?_
  | refine' x_cons ?_
  | refine' x_nil ?_
  | refine' x_cb ?_
  | refine' x_ifS ?_
  | refine' x_test ?_
  | refine' x_and ?_
  | refine' x_or ?_
  | refine' x_not ?_
  | refine' x_bl ?_
  | refine' x_rI0 ?_
  | refine' x_eqI ?_
  | refine' x_neI ?_
  | refine' x_eqS ?_
  | refine' x_neS ?_
  | refine' x_eqB ?_
  | refine' x_neB ?_
  | refine' x_intI ?_
  | refine' x_intB ?_
  | refine' x_gSub ?_
  | refine' x_gCons ?_
  | refine' x_gNil ?_
  | refine' x_ret ?_
  | refine' x_retN ?_
  | refine' x_next ?_
  | refine' x_drop ?_
  | refine' x_call ?_
  | refine' x_sl ?_
  | refine' x_noPart ?_
  | refine' x_part ?_
  | refine' x_intE ?_
  | refine' x_tup ?_
  | refine' x_lst ?_
  | refine' x_iList ?_
  | refine' x_iTup ?_
  | refine' x_range1 ?_
  | refine' x_tdget ?_
  | refine' x_tdin ?_
  | refine' x_tdnotin ?_
  | refine' x_sdput ?_
  | refine' x_trev ?_
  | refine' x_for ?_
  | refine' x_lc ?_
  | refine' x_yes ?_
  | refine' x_un ?_
  | refine' x_bm ?_
  | refine' x_bm0 ?_
  | refine' x_tB ?_
  | refine' x_notV ?_
  | refine' x_andV ?_
  | refine' x_orV ?_
  | refine' x_ifE ?_
  | refine' x_isN ?_
  | refine' x_notN ?_
  | refine' x_inSg ?_
  | refine' x_notInSg ?_
  | refine' x_min2 ?_
  | refine' x_tyS ?_
  | refine' x_ifTrue ?_
  | refine' x_ifFalse ?_
  | refine' x_ifN ?_)
local macro_rules | `(tactic| walk_at "x2") => `(tactic| first
  | ((with_reducible refine' x_mod ?x_h ?_); (case x_h => walk_at "ar"))
  | ((with_reducible refine' x_rI ?x_h ?_); (case x_h => walk_at "ar"))
  | ((with_reducible refine' x_lenL ?x_h ?_); (case x_h => walk_at "sq"))
  | ((with_reducible refine' x_lenT ?x_h ?_); (case x_h => walk_at "sqt"))
  | ((with_reducible refine' x_ixL ?x_h ?x_a ?_); (case x_h => walk_at "sq"); (case x_a => first | with_unfolding_all rfl | assumption))
  | ((with_reducible refine' x_ixT ?x_h ?x_a ?_); (case x_h => walk_at "sqt"); (case x_a => first | with_unfolding_all rfl | assumption))
  | ((with_reducible refine' x_refL ?x_h ?_); (case x_h => walk_at "sq"))
  | ((with_reducible refine' x_refT ?x_h ?_); (case x_h => walk_at "sqt"))
  | ((with_reducible refine' x_gTup ?x_h ?x_a ?_); (case x_h => walk_at "sqt"); (case x_a => rfl))
  | ((with_reducible refine' x_tyL ?x_h ?_); (case x_h => walk_at "sq")))
local macro_rules | `(tactic| walk_at "set") => `(tactic| (first
  | (refine x_setO 0 (by assumption) (by with_unfolding_all rfl) (by with_unfolding_all rfl) ?_)
  | (refine x_setO 1 (by assumption) (by with_unfolding_all rfl) (by with_unfolding_all rfl) ?_)
  | (refine x_setO 2 (by assumption) (by with_unfolding_all rfl) (by with_unfolding_all rfl) ?_)
  | (refine x_setO 3 (by assumption) (by with_unfolding_all rfl) (by with_unfolding_all rfl) ?_)))
local macro_rules | `(tactic| walk_at "x") => `(tactic| repeat first | walk_at "x1" | walk_at "x2")
local macro_rules | `(tactic| walk_at "y1") => `(tactic| with_reducible first
  | refine' x_chain ?_
  | refine' x_iS ?_
  | refine' x_strE ?_)
local macro_rules | `(tactic| walk_at "y2") => `(tactic| first
  | ((with_reducible refine' x_lenS ?x_h ?_); (case x_h => first | assumption | omega)))
local macro_rules | `(tactic| walk_at "x") => `(tactic| repeat first | walk_at "x1" | walk_at "y1" | walk_at "x2" | walk_at "y2")
local macro_rules | `(tactic| walk_at "y3") => `(tactic| with_reducible first
  | refine' x_rs ?_
  | refine' x_starts ?_
  | refine' x_ends ?_
  | refine' x_tru ?_
  | refine' x_rsL ?_)
local macro_rules | `(tactic| walk_at "x") => `(tactic| repeat first | walk_at "x1" | walk_at "y1" | walk_at "y3" | walk_at "x2" | walk_at "y2")
abbrev sAsked : Stmt := (PySem.Challenge.pw_everydoor_k12_orders_by_other_names.main.body.getD 14 (.Pass ⟨0, 0, 0, 0⟩))
abbrev nAsked : List Str := ["_law_table", "_law_which", "_law_told", "e"]
theorem scAsked : FnScope nAsked ["_law_table", "_law_which"] (defScope sAsked) := ⟨rfl, rfl, rfl, by decide +kernel, rfl, by decide +kernel, by decide +kernel⟩
def spAsked (K : PySem.W.Frag) : L2.Sp := fun vs H Q _ => ∃ (I : Hp) (M : List (Addr × HO)) (Z : List (Addr × HO) → Prop) (pb : Addr) (x : Str) (kvs : List (Key × V)) (L : Ords) (rk : Str → Nat), vs = [.ref pb, .str x] ∧ Own H I M Z ∧ I pb = some (.dK kvs) ∧
  OrdsAt K I kvs L ∧ TblOk L rk ∧ x ∈ L.map (·.1) ∧ ∀ v H' I', Same I I' → Own H' I' M Z → Rp K I' v (ansL (ordL L rk x)) → Q v H'
section
variable {P : Program} {w : World} {K : PySem.W.Frag} {mg : Str → Option Value} {base : Heap}
theorem ok_asked {CB fl f : Addr} {fdl fd : FuncData} (F : Fun K "_law_asked" "_law_asked" sAsked f fd) (T : Bi mg) (gB : mg "Barred" = some (.ref CB)) (exm : PySem.W.exmOne K (.ref CB) (.ref CB) = some true) (TX : XfC K CB) (nh : PySem.W.findIn K (.ref CB) "heads" = some none)
    (G : FnOk P w K mg base (L2.CX P w) 27 fl fdl ["bases", "name"] (spLinear K CB)) (lm : mg "linearize" = some (.ref fl)) (lk : PySem.W.keepIn K (.ref fl) = true) (lb : ∃ g, KBn K fdl ["bases", "name"] 0 ["name", "bases"] g (fun vs zs => vs ++ zs.reverse)) :
    FnOk P w K mg base CX0 28 f fd ["_law_table", "_law_which"] (spAsked K) := by
  obtain ⟨g, lb⟩ := lb
  refine F.ok scAsked (fun vs H Q E h => ?_) (fun cdv A outer s H vs Q E hr h => ?_)
  · obtain ⟨_, _, _, _, _, _, _, _, rfl, _⟩ := h
    rfl
  · obtain ⟨I, M, Z, pb, x, kvs, L, rk, rfl, S, hb, ob, TT, hx, k⟩ := h
    refine ⟨_, pss_cons (ps_try_as (i := 3) (tb := fun W => tAsg (tCallKS (spLinear K CB) 2 (fun vs zs => vs ++ zs.reverse) (WE W) (tCons (tVar 1) (tCons (tVar 0) tNil))) (gName 2)) (ts := fun a cls d => tRet (tTup (tCons (tC (.bl false)) (tCons (tXf a cls d CB "heads" (tVar 3)) tNil)))) (Wout := fun _ _ _ _ => False)
        rfl rfl scAsked.nd rfl rfl ⟨rfl, by decide, .inl gB⟩ takes0
        (fun W pn xe tk _ => pss_one (ps_set (i := 2) scAsked.nd rfl (Or.inl rfl) (by exact (pe_callKS0 (ks := ["name", "bases"]) G hr rfl lm lk lb (fun σ => passAt tk σ) (by exact (pk_cons (pv 1) (pk_cons (pv 0) pk_nil)))))))
        (fun a oe cls d pn hz hf => pss_one (ps_ret (by exact (pe_tup (pa_cons pe_bl (pa_cons (pe_xf TX nh hz hf (pv 3)) pa_nil)))))))
      (pss_one (ps_ret (pe_tup (pa_cons pe_bl (pa_cons (pv 2) pa_nil))))), ?_⟩
    try dsimp only [cxOf]
    refine x_seq ?_
    refine x_asg ?_
    refine x_callKS ?_
    walk_at "x"
    refine ⟨rfl, ?_⟩
    refine ⟨I, M, Z, pb, x, kvs, L, rk, rfl, S, hb, ob, TT, hx, fun l v H' I' ho e1 S1 _ rv => ?_, fun l q d H' I' ho e1 _ S1 hq hd => ?_⟩
    · walk_at "x"
      refine x_tupI S1 (show 2 ≤ sizeLine by decide) (fun p I2 H2 e2 h2 S2 => ?_)
      refine k _ H2 I2 (e1.trans e2) S2 ?_
      rw [ho]
      exact Rp.mkPair (SqT.of h2) (Rp.ofBool true) (rv.same e2)
    · refine ⟨true, exm, fun _ a ha => ?_, fun q => Bool.noConfusion q⟩
      dsimp only
      walk_at "x"
      refine x_xf ?_
      walk_at "x"
      refine ⟨rfl, rfl, d, _, _, rfl, S1.imm _ _ hd, rfl, ?_⟩
      walk_at "x"
      refine x_tupI S1 (show 2 ≤ sizeLine by decide) (fun p I2 H2 e2 h2 S2 => ?_)
      refine k _ H2 I2 (e1.trans e2) S2 ?_
      rw [ho]
      exact Rp.mkPair (SqT.of h2) (Rp.ofBool false) (Rp.mkList (e2 _ _ hq) Rps.strs)
end
end Dz

/-! The law of orders by other names. -/
namespace Dz
open PySem L2
local macro_rules | `(tactic| walk_at "sm") => `(tactic| first | exact Same.refl _ | assumption | (refine' Same.trans ?_ (by assumption); walk_at "sm"))
local macro_rules | `(tactic| walk_at "own") => `(tactic| first
  | exact upd_same
  | assumption
  | (apply Own.get (i := 0); assumption; with_unfolding_all rfl)
  | (apply Own.get (i := 1); assumption; with_unfolding_all rfl)
  | (apply Own.get (i := 2); assumption; with_unfolding_all rfl)
  | (apply Own.get (i := 3); assumption; with_unfolding_all rfl)
  | (apply Own.get (i := 4); assumption; with_unfolding_all rfl)
  | (apply Own.get (i := 5); assumption; with_unfolding_all rfl))
local macro_rules | `(tactic| walk_at "fix") => `(tactic| first
  | assumption
  | (apply Own.imm; assumption; assumption)
  | (apply Own.imm; assumption; apply (show ∀ {I J : Hp}, Same I J → ∀ {a : Addr} {o : HO}, I a = some o → J a = some o from fun s _ _ e => s _ _ e); rotate_left; assumption; walk_at "sm"))
local macro_rules | `(tactic| walk_at "sq") => `(tactic| first
  | (apply SqL.of; walk_at "own")
  | (apply SqL.of; walk_at "fix")
  | (apply Same.seq; (apply Own.imm; assumption); first | assumption | (apply Same.seq; rotate_left; assumption; walk_at "sm")))
local macro_rules | `(tactic| walk_at "sqt") => `(tactic| first
  | (apply SqT.of; walk_at "own")
  | (apply SqT.of; walk_at "fix")
  | (apply Same.seqT; (apply Own.imm; assumption); first | assumption | (apply Same.seqT; rotate_left; assumption; walk_at "sm")))
local macro_rules | `(tactic| walk_at "ar") => `(tactic| first | assumption | omega | decide | exact wide_div (by assumption) (by assumption) (by decide) (by decide) | (constructor <;> omega) | (left; constructor <;> omega) | (right; constructor <;> omega))
local macro_rules | `(tactic| walk_at "x1") => `(tactic| with_reducible first
  | refine' x_seq ?_
  | refine' x_asg ?_
  | refine' x_name ?_
  | (refine' x_var ?x_h ?_; (case x_h => with_unfolding_all rfl))
  | refine' x_c ?_
  | refine' x_op ?_
  | refine' x_cons ?_
  | refine' x_nil ?_
  | refine' x_cb ?_
  | refine' x_ifS ?_
  | refine' x_test ?_
  | refine' x_and ?_
  | refine' x_or ?_
  | refine' x_not ?_
  | refine' x_bl ?_
  | refine' x_rI0 ?_
  | refine' x_eqI ?_
  | refine' x_neI ?_
  | refine' x_eqS ?_
  | refine' x_neS ?_
  | refine' x_eqB ?_
  | refine' x_neB ?_
  | refine' x_intI ?_
  | refine' x_intB ?_
  | refine' x_gSub ?_
  | refine' x_gCons ?_
  | refine' x_gNil ?_
  | refine' x_ret ?_
  | refine' x_retN ?_
  | refine' x_next ?_
  | refine' x_drop ?_
  | refine' x_call ?_
  | refine' x_sl ?_
  | refine' x_noPart ?_
  | refine' x_part ?_
  | refine' x_intE ?_
  | refine' x_tup ?_
  | refine' x_lst ?_
  | refine' x_iList ?_
  | refine' x_iTup ?_
  | refine' x_range1 ?_
  | refine' x_tdget ?_
  | refine' x_tdin ?_
  | refine' x_tdnotin ?_
  | refine' x_sdput ?_
  | refine' x_trev ?_
  | refine' x_for ?_
  | refine' x_lc ?_
  | refine' x_yes ?_
  | refine' x_un ?_
  | refine' x_bm ?_
  | refine' x_bm0 ?_
  | refine' x_tB ?_
  | refine' x_notV ?_
  | refine' x_andV ?_
  | refine' x_orV ?_
  | refine' x_ifE ?_
  | refine' x_isN ?_
  | refine' x_notN ?_
  | refine' x_inSg ?_
  | refine' x_notInSg ?_
  | refine' x_min2 ?_
  | refine' x_tyS ?_
  | refine' x_ifTrue ?_
  | refine' x_ifFalse ?_
  | refine' x_ifN ?_)
local macro_rules | `(tactic| walk_at "x2") => `(tactic| first
  | ((with_reducible refine' x_mod ?x_h ?_); (case x_h => walk_at "ar"))
  | ((with_reducible refine' x_rI ?x_h ?_); (case x_h => walk_at "ar"))
  | ((with_reducible refine' x_lenL ?x_h ?_); (case x_h => walk_at "sq"))
  | ((with_reducible refine' x_lenT ?x_h ?_); (case x_h => walk_at "sqt"))
  | ((with_reducible refine' x_ixL ?x_h ?x_a ?_); (case x_h => walk_at "sq"); (case x_a => first | with_unfolding_all rfl | assumption))
  | ((with_reducible refine' x_ixT ?x_h ?x_a ?_); (case x_h => walk_at "sqt"); (case x_a => first | with_unfolding_all rfl | assumption))
  | ((with_reducible refine' x_refL ?x_h ?_); (case x_h => walk_at "sq"))
  | ((with_reducible refine' x_refT ?x_h ?_); (case x_h => walk_at "sqt"))
  | ((with_reducible refine' x_gTup ?x_h ?x_a ?_); (case x_h => walk_at "sqt"); (case x_a => rfl))
  | ((with_reducible refine' x_tyL ?x_h ?_); (case x_h => walk_at "sq")))
local macro_rules | `(tactic| walk_at "set") => `(tactic| (first
  | (refine x_setO 0 (by assumption) (by with_unfolding_all rfl) (by with_unfolding_all rfl) ?_)
  | (refine x_setO 1 (by assumption) (by with_unfolding_all rfl) (by with_unfolding_all rfl) ?_)
  | (refine x_setO 2 (by assumption) (by with_unfolding_all rfl) (by with_unfolding_all rfl) ?_)
  | (refine x_setO 3 (by assumption) (by with_unfolding_all rfl) (by with_unfolding_all rfl) ?_)))
local macro_rules | `(tactic| walk_at "x") => `(tactic| repeat first | walk_at "x1" | walk_at "x2")
local macro_rules | `(tactic| walk_at "dr") => `(tactic| refine' x_draw (by assumption) (by decide) (by decide) ?_)
local macro_rules | `(tactic| walk_at "y1") => `(tactic| with_reducible first
  | refine' x_chain ?_
  | refine' x_iS ?_
  | refine' x_strE ?_)
local macro_rules | `(tactic| walk_at "y2") => `(tactic| first
  | ((with_reducible refine' x_lenS ?x_h ?_); (case x_h => first | assumption | omega)))
local macro_rules | `(tactic| walk_at "x") => `(tactic| repeat first | walk_at "x1" | walk_at "y1" | walk_at "x2" | walk_at "y2")
local macro_rules | `(tactic| walk_at "y3") => `(tactic| with_reducible first
  | refine' x_rs ?_
  | refine' x_starts ?_
  | refine' x_ends ?_
  | refine' x_tru ?_
  | refine' x_rsL ?_)
local macro_rules | `(tactic| walk_at "x") => `(tactic| repeat first | walk_at "x1" | walk_at "y1" | walk_at "y3" | walk_at "x2" | walk_at "y2")
local macro_rules | `(tactic| walk_at "z1") => `(tactic| with_reducible first
  | refine' x_fld ?_
  | refine' x_sFld ?_
  | refine' x_fmt ?_
  | refine' x_make ?_
  | refine' x_makeN ?_
  | refine' x_js ?_
  | refine' x_js0 ?_
  | refine' x_ifE ?_)
local macro_rules | `(tactic| walk_at "x") => `(tactic| repeat first | walk_at "x1" | walk_at "y1" | walk_at "z1" | walk_at "x2" | walk_at "y2")
abbrev sLaw : Stmt := (PySem.Challenge.pw_everydoor_k12_orders_by_other_names.main.body.getD 15 (.Pass ⟨0, 0, 0, 0⟩))
abbrev nLaw : List Str := ["_law_script", "_law_source_here", "_law_rows", "_law_k", "_law_rest", "_law_chosen", "_law_j", "_law_free", "_law_new", "_law_word", "_law_other_rows", "_law_count", "_law_below", "_law_at", "_law_first", "_law_second", "_law_told", "_law_beside", "_law_row", "_law_base", "_law_other"]
theorem scLaw : FnScope nLaw ["_law_script"] (defScope sLaw) := ⟨rfl, rfl, rfl, by decide +kernel, rfl, by decide +kernel, by decide +kernel⟩
def spLaw (K : PySem.W.Frag) : L2.Sp := fun vs H Q _ => ∃ (a : Addr) (ns : List Int), vs = [.ref a] ∧ SqL K H a (ns.map V.int) ∧ ns.length ≤ 63 ∧ ∀ H', Q (.bl true) H'
theorem seq_at {n : Nat} {j : Int} (h0 : 0 ≤ j) (h1 : j < n) : seqIndex? j n = some j.toNat := (ixN_seq (by unfold ixN; rw [if_pos h0, if_pos h1])).1
theorem map_eraseS : ∀ (l : List Str) (j : Nat), (l.map V.str).eraseIdx j = (l.eraseIdx j).map V.str
  | [], _ => rfl
  | a :: t, 0 => rfl
  | a :: t, j + 1 => congrArg (V.str a :: ·) (map_eraseS t j)
theorem erase_perm : ∀ {l : List Str} {i : Nat} {y : Str}, l[i]? = some y → ([y] ++ l.eraseIdx i).Perm l
  | [], i, y, h => by simp at h
  | a :: t, 0, y, h => by
    cases h
    exact .refl _
  | a :: t, i + 1, y, h => (List.Perm.swap a y _).trans (List.Perm.cons a (erase_perm (i := i) h))
theorem dS_len : ∀ i < 9, (dS i).length = 1 := by decide +kernel
theorem abc_len : ("abc" : Str).length = 3 := by decide +kernel
theorem abc_mem {c : Nat} (h : c ∈ sg ("abc" : Str)) : c ∈ [97, 98, 99] := h
section
variable {P : Program} {w : World} {K : PySem.W.Frag} {mg : Str → Option Value} {base : Heap}
theorem ok_law {f : Addr} {fd : FuncData} (F : Fun K "law" "law" sLaw f fd) (T : Bi mg) (Dsource : Df P w K mg base "_law_source" 1 ["_law_script"] (spSource K)) (Ddraw : Df P w K mg base "_law_draw" 1 ["_law_source_here", "_law_limit"] spDraw)
    (Dasked : Df P w K mg base "_law_asked" 28 ["_law_table", "_law_which"] (spAsked K)) : FnOk P w K mg base CX0 29 f fd ["_law_script"] (spLaw K) := by
  obtain ⟨source_f, source_d, source_g, source_m, source_k, source_b⟩ := Dsource.ex; obtain ⟨draw_f, draw_d, draw_g, draw_m, draw_k, draw_b⟩ := Ddraw.ex; obtain ⟨asked_f, asked_d, asked_g, asked_m, asked_k, asked_b⟩ := Dasked.ex
  refine F.ok scLaw (fun vs H Q E h => ?_) (fun cdv A outer s H vs Q E hr h => ?_)
  · obtain ⟨_, _, rfl, _⟩ := h
    rfl
  · obtain ⟨a, ns, rfl, hS, hn, k⟩ := h
    refine ⟨_, (pss_cons (ps_set (i := 1) scLaw.nd rfl (Or.inl rfl) (pe_call source_g (hr.mono (by decide)) (by rfl) source_m source_k source_b .nil pass0 (pa_cons (pv 0) pa_nil)))
    (pss_cons (ps_set (i := 2) scLaw.nd rfl (Or.inl rfl) (pe_lst pa_nil))
    (pss_cons (ps_for PassesOwn.never rfl (pi_range1 (by rfl) T.range_ (pa_cons (pe_op op_add pe_int (pe_call draw_g (hr.mono (by decide)) (by rfl) draw_m draw_k draw_b .nil pass0 (pa_cons (pv 1) (pa_cons pe_int pa_nil)))) pa_nil)) (pg_name (i := 3) scLaw.nd rfl (Or.inl rfl))
      (pss_cons (ps_setLc (own := [("_law_row", 18)]) (i := 4) rfl scLaw.nd rfl rfl (sw_true rfl rfl rfl (by decide +kernel)) (pi_listK (K := K) (pv 2)) (blkOk_by (N := nLaw) (sc := (defScope sLaw)) (by decide +kernel)) (fun _ _ _ _ _ => (pg_name (i := 18) scLaw.nd rfl (Or.inl rfl))) (fun _ _ _ _ _ => pts_nil) (fun _ _ _ _ _ => (pe_ix (ix_tupK (K := K)) (pv 18) pe_int (fun _ _ => rfl))))
      (pss_cons (ps_set (i := 5) scLaw.nd rfl (Or.inl rfl) (pe_lst pa_nil))
      (pss_cons (ps_for PassesOwn.never rfl (pi_range1 (by rfl) T.range_ (pa_cons (pe_call draw_g (hr.mono (by decide)) (by rfl) draw_m draw_k draw_b .nil pass0 (pa_cons (pv 1) (pa_cons pe_int pa_nil))) pa_nil)) (pg_name (i := 6) scLaw.nd rfl (Or.inl rfl))
        (pss_one (ps_if (pt_cmpR (neDK (K := K) hr.units) (pv 4) (pe_lst pa_nil) (nomark _))
          (pss_one (ps_expr (pe_bmK (K := K) PySem.F.plainAttrs_list PySem.F.slot_list_append PySem.F.type_list_append mt_append (pv 5) (pa_cons (pe_bmK (K := K) PySem.F.plainAttrs_list PySem.F.slot_list_pop PySem.F.type_list_pop mt_popAt (pv 4) (pa_cons (pe_call draw_g (hr.mono (by decide)) (by rfl) draw_m draw_k draw_b .nil pass0 (pa_cons (pv 1) (pa_cons (pe_callB (c_lenK (K := K)) (by rfl) T.len_ PySem.boot_len (pa_cons (pv 4) pa_nil)) pa_nil))) pa_nil)) pa_nil))))
          pss_nil)))
      (pss_one (ps_expr (pe_bmK (K := K) PySem.F.plainAttrs_list PySem.F.slot_list_append PySem.F.type_list_append mt_append (pv 2) (pa_cons (pe_tup (pa_cons (pe_op o_addS (pe_ix ix_str pe_str (pe_call draw_g (hr.mono (by decide)) (by rfl) draw_m draw_k draw_b .nil pass0 (pa_cons (pv 1) (pa_cons pe_int pa_nil))) (fun _ _ => rfl)) (pe_callTy c_strI (by rfl) T.str_ (by decide +kernel) (pa_cons (pv 3) pa_nil))) (pa_cons (pv 5) pa_nil))) pa_nil))))))))
    (pss_cons (ps_setLc (own := [("_law_k", 3)]) (i := 7) rfl scLaw.nd rfl rfl (sw_true rfl rfl rfl (by decide +kernel)) (pi_range1 (by rfl) T.range_ (pa_cons (pe_callB (c_lenK (K := K)) (by rfl) T.len_ PySem.boot_len (pa_cons (pv 2) pa_nil)) pa_nil)) (blkOk_by (N := nLaw) (sc := (defScope sLaw)) (by decide +kernel)) (fun _ _ _ _ _ => (pg_name (i := 3) scLaw.nd rfl (Or.inl rfl))) (fun _ _ _ _ _ => pts_nil) (fun _ _ _ _ _ => (pe_op o_addS pe_str (pe_callTy c_strI (by rfl) T.str_ (by decide +kernel) (pa_cons (pv 3) pa_nil)))))
    (pss_cons (ps_set (i := 8) scLaw.nd rfl (Or.inr rfl) pe_dnewK)
    (pss_cons (ps_for PassesOwn.never rfl (pi_listK (K := K) (pv 2)) (pg_tupK (K := K) (n := 2) rfl (pgs_cons (pg_name (i := 9) scLaw.nd rfl (Or.inl rfl)) (pgs_cons (pg_name (i := 5) scLaw.nd rfl (Or.inl rfl)) pgs_nil)))
      (pss_one (ps_dput (hu_of hr) (pv 8) (pv 9) (pe_bmK (K := K) PySem.F.plainAttrs_list PySem.F.slot_list_pop PySem.F.type_list_pop mt_popAt (pv 7) (pa_cons (pe_call draw_g (hr.mono (by decide)) (by rfl) draw_m draw_k draw_b .nil pass0 (pa_cons (pv 1) (pa_cons (pe_callB (c_lenK (K := K)) (by rfl) T.len_ PySem.boot_len (pa_cons (pv 7) pa_nil)) pa_nil))) pa_nil)) rfl)))
    (pss_cons (ps_setLc (own := [("_law_row", 18)]) (i := 10) rfl scLaw.nd rfl rfl (sw_true rfl rfl rfl (by decide +kernel)) (pi_listK (K := K) (pv 2)) (blkOk_by (N := nLaw) (sc := (defScope sLaw)) (by decide +kernel)) (fun _ _ _ _ _ => (pg_name (i := 18) scLaw.nd rfl (Or.inl rfl))) (fun _ _ _ _ _ => pts_nil) (fun _ _ _ _ _ => (pe_tup (pa_cons (pe_dget (hu_of hr) (pv 8) (pe_ix (ix_tupK (K := K)) (pv 18) pe_int (fun _ _ => rfl)) (fun _ _ => rfl)) (pa_cons (pe_lc (own := [("_law_base", 19)]) rfl scLaw.nd (pi_listK (K := K) (pe_ix (ix_tupK (K := K)) (pv 18) pe_int (fun _ _ => rfl))) (blkOk_by (N := nLaw) (sc := (relS { kind := ScopeKind.function, names := [(".0", NameKind.local), ("_law_row", NameKind.local), ("_law_new", NameKind.free)], isGenerator := false, isCoroutine := false } (defScope sLaw))) (by decide +kernel)) (fun _ _ _ _ _ => (pg_name (i := 19) scLaw.nd rfl (Or.inl rfl))) (fun _ _ _ _ _ => pts_nil) (fun _ _ _ _ _ => (pe_dget (hu_of hr) (pv 8) (pv 19) (fun _ _ => rfl)))) pa_nil)))))
    (pss_cons (ps_for PassesOwn.never rfl (pi_range1 (by rfl) T.range_ (pa_cons (pe_call draw_g (hr.mono (by decide)) (by rfl) draw_m draw_k draw_b .nil pass0 (pa_cons (pv 1) (pa_cons pe_int pa_nil))) pa_nil)) (pg_name (i := 3) scLaw.nd rfl (Or.inl rfl))
      (pss_cons (ps_set (i := 11) scLaw.nd rfl (Or.inl rfl) (pe_call draw_g (hr.mono (by decide)) (by rfl) draw_m draw_k draw_b .nil pass0 (pa_cons (pv 1) (pa_cons (pe_op op_add pe_int (pe_callB (c_min2 rfl) (by rfl) T.min_ (by decide +kernel) (pa_cons pe_int (pa_cons (pe_callB (c_lenK (K := K)) (by rfl) T.len_ PySem.boot_len (pa_cons (pv 2) pa_nil)) pa_nil)))) pa_nil))))
      (pss_cons (ps_setLc (own := [("_law_row", 18)]) (i := 12) rfl scLaw.nd rfl rfl (sw_true rfl rfl rfl (by decide +kernel)) (pi_listK (K := K) (pe_slice (sl_listK (K := K)) (pv 2) (po_some (pe_op op_sub (pe_callB (c_lenK (K := K)) (by rfl) T.len_ PySem.boot_len (pa_cons (pv 2) pa_nil)) (pv 11))) po_none)) (blkOk_by (N := nLaw) (sc := (defScope sLaw)) (by decide +kernel)) (fun _ _ _ _ _ => (pg_name (i := 18) scLaw.nd rfl (Or.inl rfl))) (fun _ _ _ _ _ => pts_nil) (fun _ _ _ _ _ => (pe_dget (hu_of hr) (pv 8) (pe_ix (ix_tupK (K := K)) (pv 18) pe_int (fun _ _ => rfl)) (fun _ _ => rfl))))
      (pss_cons (ps_set (i := 13) scLaw.nd rfl (Or.inl rfl) (pe_call draw_g (hr.mono (by decide)) (by rfl) draw_m draw_k draw_b .nil pass0 (pa_cons (pv 1) (pa_cons (pe_op op_add pe_int (pe_callB (c_lenK (K := K)) (by rfl) T.len_ PySem.boot_len (pa_cons (pv 10) pa_nil))) pa_nil))))
      (pss_one (ps_expr (pe_bmK (K := K) PySem.F.plainAttrs_list PySem.F.slot_list_insert PySem.F.type_list_insert mt_insert (pv 10) (pa_cons (pv 13) (pa_cons (pe_tup (pa_cons (pe_op o_addS pe_str (pe_callTy c_strI (by rfl) T.str_ (by decide +kernel) (pa_cons (pv 3) pa_nil))) (pa_cons (pv 12) pa_nil))) pa_nil)))))))))
    (pss_cons (ps_set (i := 14) scLaw.nd rfl (Or.inl rfl) (pe_callTy (call_dictP rfl) (by rfl) T.dict_ (by decide +kernel) (pa_cons (pv 2) pa_nil)))
    (pss_cons (ps_set (i := 15) scLaw.nd rfl (Or.inl rfl) (pe_callTy (call_dictP rfl) (by rfl) T.dict_ (by decide +kernel) (pa_cons (pe_revLK (K := K) (pv 10)) pa_nil)))
    (pss_cons (ps_for PassesOwn.never rfl (pi_listK (K := K) (pv 2)) (pg_tupK (K := K) (n := 2) rfl (pgs_cons (pg_name (i := 9) scLaw.nd rfl (Or.inl rfl)) (pgs_cons (pg_name (i := 5) scLaw.nd rfl (Or.inl rfl)) pgs_nil)))
      (pss_cons (ps_set (i := 16) scLaw.nd rfl (Or.inl rfl) (pe_call asked_g (hr.mono (by decide)) (by rfl) asked_m asked_k asked_b .nil pass0 (pa_cons (pv 14) (pa_cons (pv 9) pa_nil))))
      (pss_cons (ps_set (i := 17) scLaw.nd rfl (Or.inl rfl) (pe_call asked_g (hr.mono (by decide)) (by rfl) asked_m asked_k asked_b .nil pass0 (pa_cons (pv 15) (pa_cons (pe_dget (hu_of hr) (pv 8) (pv 9) (fun _ _ => rfl)) pa_nil))))
      (pss_one (ps_if (pt_cmpR (neDK (K := K) hr.units) (pv 17) (pe_tup (pa_cons (pe_ix (ix_tupK (K := K)) (pv 16) pe_int (fun _ _ => rfl)) (pa_cons (pe_lc (own := [("_law_other", 20)]) rfl scLaw.nd (pi_listK (K := K) (pe_ix (ix_tupK (K := K)) (pv 16) pe_int (fun _ _ => rfl))) (blkOk_by (N := nLaw) (sc := (defScope sLaw)) (by decide +kernel)) (fun _ _ _ _ _ => (pg_name (i := 20) scLaw.nd rfl (Or.inl rfl))) (fun _ _ _ _ _ => pts_nil) (fun _ _ _ _ _ => (pe_dget (hu_of hr) (pv 8) (pv 20) (fun _ _ => rfl)))) pa_nil))) (nomark _))
        (pss_one (ps_ret pe_bl))
        pss_nil)))))
    (pss_one (ps_ret pe_bl))))))))))))), ?_⟩
    try dsimp only [cxOf]
    walk_at "x"
    refine ⟨H, [], a, ns, rfl, Own.of_same (Same.refl _), hS, hn, fun p H1 I1 e1 S1 => ?_⟩
    walk_at "x"
    refine x_lstM S1 (show 0 ≤ sizeLine by decide) (fun q H2 S2 => ?_)
    walk_at "x"
    walk_at "dr"
    intro nr H3 nr0 nr1 S3
    walk_at "x"
    refine x_rng1 (by omega) (by omega) ?_
    refine x_forR (n := (1 + nr).toNat) S3 (fun i σ' I' M' => ∃ (R : Ords) (vs : List V) (v3 v4 v5 v6 v18 : Option V), M' = [(q, .lst vs)] ∧ σ' = [some (.ref a), some (.ref p), some (.ref q), v3, v4, v5, v6, none, none, none, none, none, none, none, none, none, none, none, v18, none, none] ∧ Rps K I' vs R ∧ Drawn R ∧ R.length = i) ?_ ?_ ?_
    · exact ⟨[], [], _, _, _, _, _, rfl, rfl, Rps.nil, Drawn.nil, rfl⟩
    · rintro i σ' I' M' H' hi e S' ⟨R, vs, v3, v4, v5, v6, v18, rfl, rfl, rs, dr, hl⟩
      have hi9 : i < 9 := by omega
      walk_at "x"
      refine x_lcO (l := R) S' (fun D acc I2 H2 _ S2 => SqL.of (S2.get (i := 1) rfl)) rs (fun i acc _ => acc = ((R.take i).map (·.1)).map V.str) rfl ?_ ?_
      · rintro i2 x v2 acc D Ia Ha hx ea rx Sa hl2 rfl
        obtain ⟨ra, w1, w2, rfl, st, r1, r2⟩ := rx.pair
        obtain rfl := r1.str
        have hi2 := (List.getElem?_eq_some_iff.mp hx).1
        walk_at "x"
        refine ⟨rfl, ?_⟩
        walk_at "x"
        exact x_lcE ea Sa hl2 (szl (by omega)) (by rw [mapO_succ hx, List.map_append]; rfl)
      rintro qr acc Ia Ha ea Sa rfl
      rw [mapO_all] at Sa
      walk_at "x"
      refine x_lstM Sa (by decide) (fun qc Hb Sb => ?_)
      walk_at "x"
      walk_at "dr"
      intro nb Hc nb0 nb1 Sc
      walk_at "x"
      refine x_rng1 (by omega) (by omega) ?_
      refine x_forR (n := nb.toNat) Sc (fun j σ2 I2 M2 => ∃ (rest ch : List Str) (v6 : Option V), M2 = [(qc, .lst (ch.map V.str)), (qr, .lst (rest.map V.str)), (q, .lst vs)] ∧
        σ2 = [some (.ref a), some (.ref p), some (.ref q), some (.int (0 + (i : Int))), some (.ref qr), some (.ref qc), v6, none, none, none, none, none, none, none, none, none, none, none, v18, none, none] ∧ ch.length ≤ j ∧ (∀ x ∈ rest, x ∈ R.map (·.1)) ∧ rest.length ≤ 9 ∧ ∀ x ∈ ch, x ∈ R.map (·.1)) ?_ ?_ ?_
      · exact ⟨R.map (·.1), [], _, rfl, rfl, Nat.le_refl _, fun _ h => h, by rw [List.length_map]; omega, fun _ h => (by cases h)⟩
      · rintro j σ2 I2 M2 H2 hj e2 S2 ⟨rest, ch, v6, rfl, rfl, hcl, hr, hrl, hch⟩
        walk_at "x"
        refine x_lstI S2 (show 0 ≤ sizeLine by decide) (fun qe I3 H3 e3 h3 S3 => ?_)
        walk_at "x"
        refine x_neT (α := List Str) (x := rest) (y := []) (Rp.mkList (S3.get (i := 1) rfl) Rps.strs) (Rp.mkList (S3.imm _ _ h3) Rps.nil) (ok_listS fun x hx => dr.oks (hr x hx)) (ok_listS fun x hx => by cases hx) ?_
        walk_at "x"
        refine x_ifD (fun hq => ?_) (fun hq => ?_)
        · walk_at "x"
          exact ⟨I3, _, e2.trans e3, S3, rest, ch, _, rfl, rfl, by omega, hr, hrl, hch⟩
        · have hpos : 0 < rest.length := by
            cases rest with
            | nil => exact absurd rfl hq
            | cons b t => exact Nat.succ_pos _
          walk_at "x"
          rw [List.length_map]
          refine x_draw S3 (by omega) (by omega) (fun at_ H4 a0 a1 S4 => ?_)
          obtain ⟨y, ey⟩ : ∃ y, rest[at_.toNat]? = some y := ⟨_, List.getElem?_eq_getElem (by omega)⟩
          walk_at "x"
          refine x_popO 1 S4 rfl (by omega) (by omega) (seq_at a0 (by rw [List.length_map]; exact a1)) (y := .str y) (by rw [List.getElem?_map, ey]; rfl) (fun H5 S5 => ?_)
          walk_at "x"
          refine x_appO 0 S5 rfl (szl (by rw [List.length_map]; omega)) (fun H6 S6 => ?_)
          refine ⟨I3, _, e2.trans e3, S6, rest.eraseIdx at_.toNat, ch ++ [y], _, ?_, rfl, by simp; omega, fun x hx => hr x (List.mem_of_mem_eraseIdx hx), Nat.le_trans (List.length_eraseIdx_le ..) hrl, fun x hx => ?_⟩
          · rw [List.map_append, map_eraseS]
            rfl
          · rcases List.mem_append.mp hx with hx | hx
            · exact hch x hx
            · rw [List.mem_singleton.mp hx]
              exact hr y (List.mem_of_getElem? ey)
      · rintro σ2 I2 M2 H2 e2 S2 ⟨rest, ch, v6, rfl, rfl, hcl, hr, hrl, hch⟩
        walk_at "x"
        walk_at "dr"
        intro c H3 c0 c1 S3
        walk_at "x"
        refine x_ixSo (by rw [abc_len]; decide) c0 (by rw [abc_len]; exact c1) (fun b bm _ => ?_)
        walk_at "x"
        refine x_strI (Nat.lt_of_le_of_lt (Nat.log2_le_self _) (by omega)) ?_
        rw [Int.zero_add]
        refine x_addS (show (⟨#[b]⟩ : Str).length + (dS i).length ≤ sizeLine by rw [len_one, dS_len i hi9]; decide) ?_
        obtain ⟨I4, e4, h4, S4⟩ := S3.still 0 rfl
        walk_at "x"
        refine x_tupI S4 (show 2 ≤ sizeLine by decide) (fun t I5 H5 e5 h5 S5 => ?_)
        walk_at "x"
        refine x_appO 1 S5 rfl (szl (by rw [rs.len]; omega)) (fun H6 S6 => ?_)
        have E5 : Same I' I5 := (ea.trans e2).trans (e4.trans e5)
        have S7 : Own H6 I5 [(q, .lst (vs ++ [V.ref t]))] (SrcZ p) := S6.drop 0
        refine ⟨I5, _, e.trans E5, S7, R ++ [(aN b i, ch)], _, _, _, _, _, _, rfl, rfl, (rs.same E5).app (Rps.cons (Rp.mkPair (SqT.of h5) (Rp.ofStr _) (Rp.mkList (e5 _ _ h4) Rps.strs)) Rps.nil), ?_, by rw [List.length_append, hl]; rfl⟩
        have := dr.add (by omega) (abc_mem bm) (bs := ch) (by omega) hch
        rw [hl] at this
        exact this
    · rintro σ' I2 M' H' e S' ⟨R, vs, v3, v4, v5, v6, v18, rfl, rfl, rs, dr, hl⟩
      have RI := dr.ok
      have hR9 := dr.hi
      obtain ⟨I3, e3, hq, S3⟩ := S'.still 0 rfl
      have rs3 := rs.same e3
      walk_at "x"
      rw [rs.len]
      refine x_rng1 (by omega) (by omega) ?_
      refine x_lcR (n := (R.length : Int).toNat) S3 (fun i acc _ => acc = ((List.range i).map zN).map V.str) rfl ?_ ?_
      · rintro i acc D I4 H4 hi e4 S4 hl4 rfl
        have hi9 : i < 9 := by omega
        walk_at "x"
        refine ⟨rfl, ?_⟩
        walk_at "x"
        refine x_strI (Nat.lt_of_le_of_lt (Nat.log2_le_self _) (by omega)) ?_
        rw [Int.zero_add]
        refine x_addS (show ("z" : Str).length + (dS i).length ≤ sizeLine by rw [dS_len i hi9]; decide) ?_
        exact x_lcE e4 S4 hl4 (szl (by omega)) (by rw [List.range_succ, List.map_append, List.map_append]; rfl)
      rintro D acc I4 H4 e4 S4 rfl
      have ern : (R.length : Int).toNat = R.length := by omega
      rw [ern] at S4
      walk_at "x"
      refine x_dnewM S4 (fun qn H5 S5 => ?_)
      walk_at "x"
      refine x_forL (l := R) S5 (e4 _ _ hq) (rs3.same e4) (fun i σ' I' M' => ∃ (fr zs : List Str) (kvs : List (Key × V)) (v5 v9 : Option V), M' = [(qn, .dK kvs), (D, .lst (fr.map V.str))] ∧
        σ' = [some (.ref a), some (.ref p), some (.ref q), v3, v4, v5, v6, some (.ref D), some (.ref qn), v9, none, none, none, none, none, none, none, none, v18, none, none] ∧ DictS kvs ((R.map (·.1)).take i) zs ∧ zs.length = i ∧ fr.length + i = R.length ∧ (zs ++ fr).Nodup ∧ ∀ x ∈ zs ++ fr, ∃ j, j < 9 ∧ x = zN j) ?_ ?_ ?_
      · refine ⟨(List.range R.length).map zN, [], [], _, _, rfl, rfl, ⟨rfl, rfl⟩, rfl, by simp, ?_, fun x hx => ?_⟩
        · rw [List.nil_append]
          exact zN_nd _ hR9
        · rw [List.nil_append] at hx
          obtain ⟨j, hj, rfl⟩ := List.mem_map.mp hx
          exact ⟨j, by have := List.mem_range.mp hj; omega, rfl⟩
      · rintro i x v σ' I' M' H' hx e' rv S' ⟨fr, zs, kvs, v5, v9, rfl, rfl, ds, hzl, hfl, hnd, hzn⟩
        obtain ⟨ra, w1, w2, rfl, st, r1, r2⟩ := rv.pair
        obtain rfl := r1.str
        have hi := (List.getElem?_eq_some_iff.mp hx).1
        have hn : (R.map (·.1))[i]? = some x.1 := by rw [List.getElem?_map, hx]; rfl
        walk_at "x"
        have hpos : 0 < fr.length := by omega
        rw [List.length_map]
        refine x_draw S' (by omega) (by omega) (fun at_ H6 a0 a1 S6 => ?_)
        obtain ⟨y, ey⟩ : ∃ y, fr[at_.toNat]? = some y := ⟨_, List.getElem?_eq_getElem (by omega)⟩
        have hym := List.mem_of_getElem? ey
        walk_at "x"
        refine x_popO 1 S6 rfl (by omega) (by omega) (seq_at a0 (by rw [List.length_map]; exact a1)) (y := .str y) (by rw [List.getElem?_map, ey]; rfl) (fun H7 S7 => ?_)
        walk_at "x"
        have hxn : x.1 ∉ (R.map (·.1)).take i := fun q => absurd (idx_take q) (by rw [idx_of RI.nd hn]; exact Nat.lt_irrefl _)
        have hkl := ds.len
        rw [List.length_take, List.length_map] at hkl
        refine x_dpS 0 S7 rfl (szl (by omega)) (fun H8 S8 => ?_)
        have pm : (zs ++ [y] ++ fr.eraseIdx at_.toNat).Perm (zs ++ fr) := by
          rw [List.append_assoc]
          refine List.Perm.append_left _ ?_
          exact erase_perm ey
        refine ⟨I', _, e', S8, fr.eraseIdx at_.toNat, zs ++ [y], putK kvs (.inr x.1) (.str y), _, _, ?_, rfl, ?_, by rw [List.length_append, hzl]; rfl, by rw [List.length_eraseIdx_of_lt (by omega)]; omega, pm.nodup_iff.mpr hnd, fun z hz => hzn z (pm.mem_iff.mp hz)⟩
        · show [_, _] = _
          rw [map_eraseS]
        · have := ds.put (z := y) hxn
          rw [List.take_succ, hn]
          exact this
      · rintro σ' I5 M' H' e5 S5 ⟨fr, zs, kvs, v5, v9, rfl, rfl, ds, hzl, hfl, hnd, hzn⟩
        rw [List.take_of_length_le (by rw [List.length_map]; exact Nat.le_refl _)] at ds
        have hzz : zs.Nodup := (List.nodup_append.mp hnd).1
        have hzm : ∀ i, i < 9 → moN i ∉ zs := fun i hi hz => by
          obtain ⟨j, hj, e⟩ := hzn _ (List.mem_append_left _ hz)
          exact zN_moN j hj i hi e.symm
        have hl' : zs.length = (R.map (·.1)).length := by rw [List.length_map]; exact hzl
        obtain ⟨I6, e6, hnw, S6⟩ := S5.still 0 rfl
        have S6 : Own H' I6 [(D, .lst (fr.map V.str))] (SrcZ p) := S6
        have E6 := e4.trans (e5.trans e6)
        obtain ⟨fo, hfo⟩ : ∃ fo, fo = fOf (R.map (·.1)) zs := ⟨_, rfl⟩
        walk_at "x"
        refine x_lcL (l := R) S6 (E6 _ _ hq) (rs3.same E6) (fun i acc I' => Rps K I' acc ((R.take i).map (renP fo))) Rps.nil ?_ ?_
        · rintro i x v acc D2 I7 H7 hx e7 rv S7 hl7 ra
          obtain ⟨pa, w1, w2, rfl, st, r1, r2⟩ := rv.pair
          obtain rfl := r1.str
          obtain ⟨la, rfl, hla⟩ := r2.strs
          have hxm := List.mem_of_getElem? hx
          have hi := (List.getElem?_eq_some_iff.mp hx).1
          walk_at "x"
          refine ⟨rfl, ?_⟩
          walk_at "x"
          refine x_dgS ((e7.trans S7.imm) _ _ hnw) (ds.get (List.mem_map_of_mem hxm)) ?_
          rw [← hfo]
          walk_at "x"
          refine x_lcL (l := x.2) S7 hla Rps.strs (fun i acc _ => acc = ((x.2.take i).map fo).map V.str) rfl ?_ ?_
          · rintro i2 b vb acc2 D3 I8 H8 hb e8 rb S8 hl8 rfl
            obtain rfl := rb.str
            have hbm : b ∈ R.map (·.1) := List.mem_of_mem_take (RI.up i x hx b (List.mem_of_getElem? hb))
            have hi8 := (List.getElem?_eq_some_iff.mp hb).1
            have hf3 := RI.few x hxm
            walk_at "x"
            refine ⟨rfl, ?_⟩
            walk_at "x"
            refine x_dgS ((e7.trans (e8.trans S8.imm)) _ _ hnw) (ds.get hbm) ?_
            rw [← hfo]
            exact x_lcE e8 S8 hl8 (szl (by omega)) (by rw [mapO_succ hb, List.map_append]; rfl)
          rintro D3 acc2 I8 H8 e8 S8 rfl
          rw [mapO_all] at S8
          obtain ⟨I9, e9, h9, S9⟩ := S8.still 0 rfl
          walk_at "x"
          refine x_tupI S9 (show 2 ≤ sizeLine by decide) (fun t I10 H10 e10 h10 S10 => ?_)
          have E10 := e8.trans (e9.trans e10)
          refine x_lcE (e7.trans E10) S10 hl7 (szl (by omega)) ?_
          rw [mapO_succ hx]
          exact (ra.same E10).app (Rps.cons (Rp.mkPair (SqT.of h10) (Rp.ofStr (fo x.1)) (Rp.mkList (e10 _ _ h9) Rps.strs)) Rps.nil)
        · rintro D2 acc I7 H7 e7 S7 ra
          rw [mapO_all] at ra
          have S7 : Own H7 I7 [(D2, .lst acc)] (SrcZ p) := S7.drop 1
          have o0 := OtherIn.start (mo := moN) RI hzz hzl
          rw [← hfo] at o0
          walk_at "x"
          walk_at "dr"
          intro nk H8 nk0 nk1 S8
          walk_at "x"
          refine x_rng1 (by omega) (by omega) ?_
          refine x_forR (n := nk.toNat) S8 (fun k σ' I' M' => ∃ (O : Ords) (ov : List V) (v3 v11 v12 v13 v18 v19 v20 : Option V), M' = [(D2, .lst ov)] ∧
            σ' = [some (.ref a), some (.ref p), some (.ref q), v3, v4, v5, v6, some (.ref D), some (.ref qn), v9, some (.ref D2), v11, v12, v13, none, none, none, none, v18, v19, v20] ∧ Rps K I' ov O ∧ OtherIn R zs moN k O) ?_ ?_ ?_
          · exact ⟨_, acc, _, _, _, _, _, _, _, rfl, rfl, ra, o0⟩
          · rintro k σ' I9 M' H9 hk e9 S9 ⟨O, ov, v3, v11, v12, v13, v18, v19, v20, rfl, rfl, ro, oi⟩
            have hk9 : k < 9 := by omega
            walk_at "x"
            have E9 : Same I3 I9 := E6.trans (e7.trans e9)
            have hvl := rs.len
            rw [hvl]
            obtain ⟨lim, el, hlim⟩ : ∃ lim : Int, (if (R.length : Int) < 4 then (R.length : Int) else 4) = lim ∧ 0 ≤ lim ∧ lim ≤ 4 ∧ lim ≤ R.length := ⟨_, rfl, by split <;> omega⟩
            rw [el]
            refine x_draw S9 (by omega) (by omega) (fun cnt H10 c0 c1 S10 => ?_)
            walk_at "x"
            refine x_slI S10 (SqL.of (S10.imm _ _ (E9 _ _ hq))) (fun q2 I11 H11 e11 h11 S11 => ?_)
            have ecnt : (vs.length : Int) - cnt = ((R.length - cnt.toNat : Nat) : Int) := by omega
            rw [ecnt, cutV_drop] at h11
            have hdl : (R.drop (R.length - cnt.toNat)).length ≤ 4 := by
              rw [List.length_drop]
              omega
            have hdm : ∀ x ∈ R.drop (R.length - cnt.toNat), x ∈ R := fun x hx => List.mem_of_mem_drop hx
            have rd := (rs3.same (E9.trans e11)).drop (R.length - cnt.toNat)
            obtain ⟨Rd, eRd⟩ : ∃ Rd, Rd = R.drop (R.length - cnt.toNat) := ⟨_, rfl⟩
            rw [← eRd] at hdl hdm rd
            walk_at "x"
            refine x_lcL (l := Rd) S11 h11 rd (fun i acc _ => acc = ((Rd.take i).map (fun r => fo r.1)).map V.str) rfl ?_ ?_
            · rintro i x v acc D3 I12 H12 hx e12 rv S12 hl12 rfl
              obtain ⟨pa, w1, w2, rfl, st, r1, r2⟩ := rv.pair
              obtain rfl := r1.str
              have hxm := hdm x (List.mem_of_getElem? hx)
              have hi := (List.getElem?_eq_some_iff.mp hx).1
              walk_at "x"
              refine ⟨rfl, ?_⟩
              walk_at "x"
              refine x_dgS ((((e7.trans e9).trans (e11.trans e12)).trans S12.imm) _ _ hnw) (ds.get (List.mem_map_of_mem hxm)) ?_
              rw [← hfo]
              exact x_lcE e12 S12 hl12 (szl (by omega)) (by rw [mapO_succ hx, List.map_append]; rfl)
            rintro D3 acc I12 H12 e12 S12 rfl
            rw [mapO_all] at S12
            obtain ⟨I13, e13, h13, S13⟩ := S12.still 0 rfl
            have S13 : Own H12 I13 [(D2, .lst ov)] (SrcZ p) := S13
            walk_at "x"
            have hol := ro.len
            have hoo := oi.len
            have hrl := RI.hi
            refine x_draw S13 (by omega) (by omega) (fun at_ H14 a0 a1 S14 => ?_)
            walk_at "x"
            refine x_strI (Nat.lt_of_le_of_lt (Nat.log2_le_self _) (by omega)) ?_
            rw [Int.zero_add]
            refine x_addS (show ("more" : Str).length + (dS k).length ≤ sizeLine by rw [dS_len k hk9]; decide) ?_
            walk_at "x"
            refine x_tupI S14 (show 2 ≤ sizeLine by decide) (fun t I15 H15 e15 h15 S15 => ?_)
            walk_at "x"
            refine ⟨D2, ov, at_, V.ref t, rfl, rfl, S15.get (i := 0) rfl, szl (by omega), a0, by omega, ?_⟩
            have S16 : Own (upd H15 D2 (.lst (ov.take at_.toNat ++ [V.ref t] ++ ov.drop at_.toNat))) I15 [(D2, .lst (ov.take at_.toNat ++ [V.ref t] ++ ov.drop at_.toNat))] (SrcZ p) := S15.set 0 rfl
            have E15 : Same I9 I15 := (e11.trans e12).trans (e13.trans e15)
            have ro15 := ro.same E15
            refine ⟨I15, _, e9.trans E15, S16, O.take at_.toNat ++ [(moN k, Rd.map fun r => fo r.1)] ++ O.drop at_.toNat, _, _, _, _, _, _, _, _, rfl, rfl, ?_, ?_⟩
            · exact ((ro15.take _).app (Rps.cons (Rp.mkPair (SqT.of h15) (Rp.ofStr (moN k)) (Rp.mkList (e15 _ _ h13) Rps.strs)) Rps.nil)).app (ro15.drop _)
            · refine oi.more RI hzl (fun i hi e => ?_) (hzm k hk9) (by rw [List.length_map]; exact hdl) (fun b hb => ?_)
              · have := moN_inj i (by omega) k hk9 e
                omega
              · obtain ⟨r, hr, rfl⟩ := List.mem_map.mp hb
                exact ⟨r, hdm r hr, by rw [← hfo]⟩
          · rintro σ' I9 M' H9 e9 S9 ⟨O, ov, v3, v11, v12, v13, v18, v19, v20, rfl, rfl, ro, oi⟩
            have E9 : Same I3 I9 := E6.trans (e7.trans e9)
            walk_at "x"
            obtain ⟨ps, kv1, ep, hp, em, o1⟩ := rows_dict (K := K) S9.imm (rs3.same E9) RI.nd
            refine ⟨q, ps, kv1, rfl, by rw [← ep]; exact SqL.of (S9.imm _ _ (E9 _ _ hq)), hp, fun pd hpd => ?_⟩
            rw [em]
            refine S9.new (o := HO.dK kv1) hpd (fun I10 e10 h10 S10 => ?_)
            walk_at "x"
            refine x_rvI S10 (SqL.of (S10.get (i := 0) rfl)) (fun q3 I11 H11 e11 h11 S11 => ?_)
            walk_at "x"
            have hnd2 : (O.reverse.map (·.1)).Nodup := by
              rw [List.map_reverse]
              exact (List.reverse_perm _).nodup_iff.mpr oi.nd
            obtain ⟨ps2, kv2, ep2, hp2, em2, o2⟩ := rows_dict (K := K) S11.imm (ro.same (e10.trans e11)).rev hnd2
            refine ⟨q3, ps2, kv2, rfl, by rw [← ep2]; exact SqL.of (S11.imm _ _ h11), hp2, fun pd2 hpd2 => ?_⟩
            rw [em2]
            refine S11.new (o := HO.dK kv2) hpd2 (fun I12 e12 h12 S12 => ?_)
            walk_at "x"
            have E12 : Same I3 I12 := E9.trans ((e10.trans e11).trans e12)
            have hk9 : nk.toNat ≤ 9 := by omega
            have hzm2 : ∀ i < nk.toNat, moN i ∉ zs := fun i hi => hzm i (by omega)
            refine x_forL (l := R) S12 (E12 _ _ hq) (rs3.same E12) (fun i σ' I' M' => ∃ (v3 v5 v9 v16 v17 v18 v19 v20 : Option V), M' = [(D2, .lst ov)] ∧
              σ' = [some (.ref a), some (.ref p), some (.ref q), v3, v4, v5, v6, some (.ref D), some (.ref qn), v9, some (.ref D2), v11, v12, v13, some (.ref pd), some (.ref pd2), v16, v17, v18, v19, v20]) ?_ ?_ ?_
            · exact ⟨_, _, _, _, _, _, _, _, rfl, rfl⟩
            · rintro i x v σ' I' M' H' hx e' rv S' ⟨v3, v5, v9, v16, v17, v18, v19, v20, rfl, rfl⟩
              obtain ⟨pa, w1, w2, rfl, st, r1, r2⟩ := rv.pair
              obtain rfl := r1.str
              have hxm := List.mem_of_getElem? hx
              have hxn : x.1 ∈ R.map (·.1) := List.mem_map_of_mem hxm
              have hs := oi.same RI hzz hzl hzm2 hk9 hxn
              have hin := ansL_in RI.tbl hxn
              rw [← hfo] at hs
              walk_at "x"
              refine ⟨I', _, _, pd, x.1, kv1, R, rkL (R.map (·.1)), rfl, S', ((e11.trans e12).trans e') _ _ h10, o1.same ((e10.trans e11).trans (e12.trans e')), RI.tbl, hxn, fun r1 Ha Ia ea Sa rr1 => ?_⟩
              walk_at "x"
              refine x_dgS ((((e7.trans e9).trans ((e10.trans e11).trans (e12.trans e'))).trans (ea.trans Sa.imm)) _ _ hnw) (ds.get hxn) ?_
              rw [← hfo]
              walk_at "x"
              refine ⟨Ia, _, _, pd2, fo x.1, kv2, O.reverse, rkL zs, rfl, Sa, ((e'.trans ea)) _ _ h12, o2.same (e12.trans (e'.trans ea)), oi.tbl RI hzz hzl hzm2 hk9, hs.1, fun r2 Hb Ib eb Sb rr2 => ?_⟩
              rw [hs.2] at rr2
              obtain ⟨an, ean⟩ : ∃ an, an = ansL (ordL R (rkL (R.map (·.1))) x.1) := ⟨_, rfl⟩
              rw [← ean] at rr1 rr2 hin
              have rr1 := rr1.same eb
              obtain ⟨ta, t1, t2, rfl, stt, rt1, rt2⟩ := rr1.pair
              obtain rfl := rt1.bool
              obtain ⟨tl, rfl, htl⟩ := rt2.strs
              walk_at "x"
              refine x_lcL (l := an.2) Sb htl Rps.strs (fun i acc _ => acc = ((an.2.take i).map fo).map V.str) rfl ?_ ?_
              · rintro i y v acc D3 Ic Hc hy ec rv Sc hlc rfl
                obtain rfl := rv.str
                have hyn := hin.1 y (List.mem_of_getElem? hy)
                have hi := (List.getElem?_eq_some_iff.mp hy).1
                have h40 := hin.2
                walk_at "x"
                refine ⟨rfl, ?_⟩
                walk_at "x"
                refine x_dgS ((((e7.trans e9).trans ((e10.trans e11).trans (e12.trans e'))).trans ((ea.trans eb).trans (ec.trans Sc.imm))) _ _ hnw) (ds.get hyn) ?_
                rw [← hfo]
                exact x_lcE ec Sc hlc (szl (by omega)) (by rw [mapO_succ hy, List.map_append]; rfl)
              rintro D3 acc Ic Hc ec Sc rfl
              rw [mapO_all] at Sc
              obtain ⟨Id, ed, hd, Sd⟩ := Sc.still 0 rfl
              have Sd : Own Hc Id [(D2, .lst ov)] (SrcZ p) := Sd
              walk_at "x"
              refine x_tupI Sd (show 2 ≤ sizeLine by decide) (fun t Ie He ee he Se => ?_)
              have hok : Enc.ok (an.1, an.2.map fo) = true := by
                show (true && Enc.ok (an.2.map fo)) = true
                rw [Bool.true_and]
                refine ok_listS fun z hz => ?_
                obtain ⟨y, hy, rfl⟩ := List.mem_map.mp hz
                have hfz := fOf_mem RI.nd hl' (hin.1 y hy)
                rw [← hfo] at hfz
                obtain ⟨j, hj, ej⟩ := hzn _ (List.mem_append_left _ hfz)
                rw [ej]
                exact zN_ok j hj
              refine x_neT (α := Bool × List Str) (x := (an.1, an.2.map fo)) (y := (an.1, an.2.map fo)) (rr2.same (((ec.trans ed).trans ee).trans Se.imm)) (Rp.mkPair (SqT.of (Se.imm _ _ he)) (Rp.ofBool _) (Rp.mkList ((ee.trans Se.imm) _ _ hd) Rps.strs)) hok hok ?_
              walk_at "x"
              refine x_ifD (fun _ => ?_) (fun h => absurd rfl h)
              walk_at "x"
              exact ⟨Ie, _, (e'.trans (ea.trans eb)).trans ((ec.trans ed).trans ee), Se, _, _, _, _, _, _, _, _, rfl, rfl⟩
            · rintro σ' I' M' H' e' S' ⟨v3, v5, v9, v16, v17, v18, v19, v20, rfl, rfl⟩
              walk_at "x"
              exact k _
end
end Dz

namespace Dz
open PySem L2
theorem all_mk {l : PySem.W.OpenLaw} {w : World} {K : PySem.W.Frag} {h : Heap} {mg : Str → Option Value} {fa : Addr} (X : K.In h) (G : h.Ns mainGlobals mg) (hfa : mg "law" = some (.ref fa))
    {CB fB ccB cdaB NB : Addr} {nmB qB : Str} {bsB bmB : List Value} {snB : List Str} {suB : List Value} {abB : Bool} {coB : Option Bool} {ddB : Option Addr} {m0B m1B m2B m3B m5B : Option Value}
    {ocB docB pmB ctvB cclB clB : Value} {odB cddB cldB : Option Addr} {oslB ccsB cslB : Array (Option Value)} {vsB : Array Value} {fileB : Str} {tfB : Tok}
    {fstands_behind : Addr} {odstands_behind anstands_behind : Option Addr} {slstands_behind : Array (Option Value)} {ocstands_behind kVstands_behind dcstands_behind pmstands_behind cdstands_behind ctstands_behind : Value}
    {fwithout_head : Addr} {odwithout_head anwithout_head : Option Addr} {slwithout_head : Array (Option Value)} {ocwithout_head kVwithout_head dcwithout_head pmwithout_head cdwithout_head ctwithout_head : Value}
    {fall_heads : Addr} {odall_heads anall_heads : Option Addr} {slall_heads : Array (Option Value)} {ocall_heads kVall_heads dcall_heads pmall_heads cdall_heads ctall_heads : Value}
    {ffree_head : Addr} {odfree_head anfree_head : Option Addr} {slfree_head : Array (Option Value)} {ocfree_head kVfree_head dcfree_head pmfree_head cdfree_head ctfree_head : Value}
    {fmerge : Addr} {odmerge anmerge : Option Addr} {slmerge : Array (Option Value)} {ocmerge kVmerge dcmerge pmmerge cdmerge ctmerge : Value}
    {forder_of : Addr} {odorder_of anorder_of : Option Addr} {slorder_of : Array (Option Value)} {ocorder_of kVorder_of dcorder_of pmorder_of cdorder_of ctorder_of : Value}
    {flinearize : Addr} {odlinearize anlinearize : Option Addr} {sllinearize : Array (Option Value)} {oclinearize kVlinearize dclinearize pmlinearize cdlinearize ctlinearize : Value}
    {fsource : Addr} {odsource ansource : Option Addr} {slsource : Array (Option Value)} {ocsource kVsource dcsource pmsource cdsource ctsource : Value}
    {fdraw : Addr} {oddraw andraw : Option Addr} {sldraw : Array (Option Value)} {ocdraw kVdraw dcdraw pmdraw cddraw ctdraw : Value}
    {fasked : Addr} {odasked anasked : Option Addr} {slasked : Array (Option Value)} {ocasked kVasked dcasked pmasked cdasked ctasked : Value}
    {flaw : Addr} {odlaw anlaw : Option Addr} {sllaw : Array (Option Value)} {oclaw kVlaw dclaw pmlaw cdlaw ctlaw : Value}
    (aB : PySem.W.nsIn K mainGlobals "Barred" = some (some (.ref CB)))
    (xB : K.lookup CB = some (excClassObj nmB qB CB NB bsB bmB true snB suB abB coB ddB m0B m1B m2B m3B m5B "ValueError.__new__"))
    (rvB : PySem.HandSPX.refsVE bmB = true)
    (saB : PySem.W.findIn K (.ref CB) "__setattr__" = some (some (.builtin "object.__setattr__")))
    (gaB : PySem.W.findIn K (.ref CB) "__getattribute__" = some (some (.builtin "BaseException.__getattribute__")))
    (ggB : PySem.W.findIn K (.ref CB) "__getattr__" = some none)
    (nhB : PySem.W.findIn K (.ref CB) "heads" = some none)
    (eB : PySem.W.subIn K (.ref CB) (.type "BaseException") = some true)
    (vB : PySem.W.subIn K (.ref CB) (.type "ValueError") = some true)
    (tB : PySem.W.typeIn K (.ref CB) = some (.type "type"))
    (kB : PySem.W.keepIn K (.ref CB) = true)
    (hB : PySem.W.hasDictIn K CB = true)
    (iB : PySem.W.isClsIn K CB = true)
    (sB : PySem.W.subIn K (.ref CB) (.ref CB) = some true)
    (aiB : PySem.W.findIn K (.ref CB) "__init__" = some (some (.ref fB)))
    (tiB : PySem.W.typeIn K (.ref fB) = some (.type "function"))
    (liB : K.lookup fB = some ⟨ocB, odB, .func (PySem.W.fnX "__init__" "Barred.__init__" (defArgs sBInit) (defBody sBInit) (defScope sBInit) [("__class__", ccB)] .none .none docB pmB none (.ref cdaB) ctvB), oslB⟩)
    (lcB : K.lookup cdaB = some ⟨cclB, cddB, .fields vsB, ccsB⟩)
    (vfB : vsB[2]? = some (.str fileB tfB))
    (ffB : ((l.prog.main.file : Str) == fileB) = true)
    (leB : K.lookup ccB = some ⟨clB, cldB, .cell (some (.ref CB)), cslB⟩)
    (moB : PySem.W.mroIn K CB (.ref CB) = some true)
    (toB : (l.prog.main.scope.names.lookup ("super" : Str)).isSome = false)
    (opB : PySem.W.nsIn K cStatics "thirdparty.any" = some none)
    (alB : PySem.W.ks_superIn K CB CB "__init__" = some (some (.builtin "ValueError.__init__")))
    (cqB : PySem.W.codeIn K (.ref cdaB) "Barred.__init__" = true)
    (astands_behind : PySem.W.nsIn K mainGlobals "stands_behind" = some (some (.ref fstands_behind)))
    (lstands_behind : K.lookup fstands_behind = some ⟨ocstands_behind, odstands_behind, .func (PySem.W.fnOf "stands_behind" "stands_behind" (defArgs sStands) (defBody sStands) (defScope sStands) .none kVstands_behind dcstands_behind pmstands_behind anstands_behind cdstands_behind ctstands_behind), slstands_behind⟩)
    (cstands_behind : PySem.W.codeIn K cdstands_behind "stands_behind" = true)
    (kstands_behind : PySem.W.keepIn K (.ref fstands_behind) = true)
    (awithout_head : PySem.W.nsIn K mainGlobals "without_head" = some (some (.ref fwithout_head)))
    (lwithout_head : K.lookup fwithout_head = some ⟨ocwithout_head, odwithout_head, .func (PySem.W.fnOf "without_head" "without_head" (defArgs sWithout) (defBody sWithout) (defScope sWithout) .none kVwithout_head dcwithout_head pmwithout_head anwithout_head cdwithout_head ctwithout_head), slwithout_head⟩)
    (cwithout_head : PySem.W.codeIn K cdwithout_head "without_head" = true)
    (kwithout_head : PySem.W.keepIn K (.ref fwithout_head) = true)
    (aall_heads : PySem.W.nsIn K mainGlobals "all_heads" = some (some (.ref fall_heads)))
    (lall_heads : K.lookup fall_heads = some ⟨ocall_heads, odall_heads, .func (PySem.W.fnOf "all_heads" "all_heads" (defArgs sHeads) (defBody sHeads) (defScope sHeads) .none kVall_heads dcall_heads pmall_heads anall_heads cdall_heads ctall_heads), slall_heads⟩)
    (call_heads : PySem.W.codeIn K cdall_heads "all_heads" = true)
    (kall_heads : PySem.W.keepIn K (.ref fall_heads) = true)
    (afree_head : PySem.W.nsIn K mainGlobals "free_head" = some (some (.ref ffree_head)))
    (lfree_head : K.lookup ffree_head = some ⟨ocfree_head, odfree_head, .func (PySem.W.fnOf "free_head" "free_head" (defArgs sFree) (defBody sFree) (defScope sFree) .none kVfree_head dcfree_head pmfree_head anfree_head cdfree_head ctfree_head), slfree_head⟩)
    (cfree_head : PySem.W.codeIn K cdfree_head "free_head" = true)
    (kfree_head : PySem.W.keepIn K (.ref ffree_head) = true)
    (amerge : PySem.W.nsIn K mainGlobals "merge" = some (some (.ref fmerge)))
    (lmerge : K.lookup fmerge = some ⟨ocmerge, odmerge, .func (PySem.W.fnOf "merge" "merge" (defArgs sPMerge) (defBody sPMerge) (defScope sPMerge) .none kVmerge dcmerge pmmerge anmerge cdmerge ctmerge), slmerge⟩)
    (cmerge : PySem.W.codeIn K cdmerge "merge" = true)
    (kmerge : PySem.W.keepIn K (.ref fmerge) = true)
    (aorder_of : PySem.W.nsIn K mainGlobals "order_of" = some (some (.ref forder_of)))
    (lorder_of : K.lookup forder_of = some ⟨ocorder_of, odorder_of, .func (PySem.W.fnOf "order_of" "order_of" (defArgs sOrderOf) (defBody sOrderOf) (defScope sOrderOf) .none kVorder_of dcorder_of pmorder_of anorder_of cdorder_of ctorder_of), slorder_of⟩)
    (corder_of : PySem.W.codeIn K cdorder_of "order_of" = true)
    (korder_of : PySem.W.keepIn K (.ref forder_of) = true)
    (alinearize : PySem.W.nsIn K mainGlobals "linearize" = some (some (.ref flinearize)))
    (llinearize : K.lookup flinearize = some ⟨oclinearize, odlinearize, .func (PySem.W.fnOf "linearize" "linearize" (defArgs sLinearize) (defBody sLinearize) (defScope sLinearize) .none kVlinearize dclinearize pmlinearize anlinearize cdlinearize ctlinearize), sllinearize⟩)
    (clinearize : PySem.W.codeIn K cdlinearize "linearize" = true)
    (klinearize : PySem.W.keepIn K (.ref flinearize) = true)
    (asource : PySem.W.nsIn K mainGlobals "_law_source" = some (some (.ref fsource)))
    (lsource : K.lookup fsource = some ⟨ocsource, odsource, .func (PySem.W.fnOf "_law_source" "_law_source" (defArgs sSource) (defBody sSource) (defScope sSource) .none kVsource dcsource pmsource ansource cdsource ctsource), slsource⟩)
    (csource : PySem.W.codeIn K cdsource "_law_source" = true)
    (ksource : PySem.W.keepIn K (.ref fsource) = true)
    (adraw : PySem.W.nsIn K mainGlobals "_law_draw" = some (some (.ref fdraw)))
    (ldraw : K.lookup fdraw = some ⟨ocdraw, oddraw, .func (PySem.W.fnOf "_law_draw" "_law_draw" (defArgs sDraw) (defBody sDraw) (defScope sDraw) .none kVdraw dcdraw pmdraw andraw cddraw ctdraw), sldraw⟩)
    (cdraw : PySem.W.codeIn K cddraw "_law_draw" = true)
    (kdraw : PySem.W.keepIn K (.ref fdraw) = true)
    (aasked : PySem.W.nsIn K mainGlobals "_law_asked" = some (some (.ref fasked)))
    (lasked : K.lookup fasked = some ⟨ocasked, odasked, .func (PySem.W.fnOf "_law_asked" "_law_asked" (defArgs sAsked) (defBody sAsked) (defScope sAsked) .none kVasked dcasked pmasked anasked cdasked ctasked), slasked⟩)
    (casked : PySem.W.codeIn K cdasked "_law_asked" = true)
    (kasked : PySem.W.keepIn K (.ref fasked) = true)
    (alaw : PySem.W.nsIn K mainGlobals "law" = some (some (.ref flaw)))
    (llaw : K.lookup flaw = some ⟨oclaw, odlaw, .func (PySem.W.fnOf "law" "law" (defArgs sLaw) (defBody sLaw) (defScope sLaw) .none kVlaw dclaw pmlaw anlaw cdlaw ctlaw), sllaw⟩)
    (claw : PySem.W.codeIn K cdlaw "law" = true)
    (klaw : PySem.W.keepIn K (.ref flaw) = true)
    (zint : PySem.W.nsIn K mainGlobals "int" = some none)
    (zlen : PySem.W.nsIn K mainGlobals "len" = some none)
    (zrange : PySem.W.nsIn K mainGlobals "range" = some none)
    (zstr : PySem.W.nsIn K mainGlobals "str" = some none)
    (zbool : PySem.W.nsIn K mainGlobals "bool" = some none)
    (zlist : PySem.W.nsIn K mainGlobals "list" = some none)
    (ztuple : PySem.W.nsIn K mainGlobals "tuple" = some none)
    (zdict : PySem.W.nsIn K mainGlobals "dict" = some none)
    (zset : PySem.W.nsIn K mainGlobals "set" = some none)
    (zisinstance : PySem.W.nsIn K mainGlobals "isinstance" = some none)
    (zall : PySem.W.nsIn K mainGlobals "all" = some none)
    (zany : PySem.W.nsIn K mainGlobals "any" = some none)
    (zmin : PySem.W.nsIn K mainGlobals "min" = some none)
    (zmax : PySem.W.nsIn K mainGlobals "max" = some none)
    (zsorted : PySem.W.nsIn K mainGlobals "sorted" = some none)
    (zenumerate : PySem.W.nsIn K mainGlobals "enumerate" = some none)
    (zabs : PySem.W.nsIn K mainGlobals "abs" = some none)
    (zsum : PySem.W.nsIn K mainGlobals "sum" = some none)
    (zzip : PySem.W.nsIn K mainGlobals "zip" = some none)
    (zreversed : PySem.W.nsIn K mainGlobals "reversed" = some none)
    (zsuper : PySem.W.nsIn K mainGlobals "super" = some none)
    : ∃ fd : FuncData, (∀ (s : Shared) (v : Value), BindsTo s fd ⟨[v], []⟩ [("_law_script", v)]) ∧ ∀ base : Heap, K.In base → base.Ns mainGlobals mg → FnOk l.prog w K mg base CX0 29 fa fd ["_law_script"] (spLaw K) := by
  have e := hfa.symm.trans (PySem.W.mg_of X G alaw)
  cases e
  have T : Bi mg := ⟨PySem.W.mg_none_of X G zint, PySem.W.mg_none_of X G zlen, PySem.W.mg_none_of X G zrange, PySem.W.mg_none_of X G zstr, PySem.W.mg_none_of X G zbool, PySem.W.mg_none_of X G zlist, PySem.W.mg_none_of X G ztuple, PySem.W.mg_none_of X G zdict, PySem.W.mg_none_of X G zset, PySem.W.mg_none_of X G zisinstance, PySem.W.mg_none_of X G zall, PySem.W.mg_none_of X G zany, PySem.W.mg_none_of X G zmin, PySem.W.mg_none_of X G zmax, PySem.W.mg_none_of X G zsorted, PySem.W.mg_none_of X G zenumerate, PySem.W.mg_none_of X G zabs, PySem.W.mg_none_of X G zsum, PySem.W.mg_none_of X G zzip, PySem.W.mg_none_of X G zreversed, PySem.W.mg_none_of X G zsuper⟩
  have mB : mg "Barred" = some (.ref CB) := PySem.W.mg_of X G aB
  have OB : OexC K CB := ⟨⟨_, _, _, _, _, _, _, _, _, _, _, _, _, _, _, xB, rvB⟩, saB, eB, tB, kB⟩
  have XB : XfC K CB := ⟨gaB, ggB, eB, hB⟩
  have exB := exm_own eB iB tB sB
  have SB : SupD K l.prog CB fB ccB cdaB "Barred.__init__" (defArgs sBInit) (defBody sBInit) (defScope sBInit) _ := { lf := ⟨_, _, _, _, _, _, rfl, liB⟩, head := ⟨_, rfl, rfl⟩, code := ⟨_, _, _, _, _, _, lcB, vfB, ffB⟩, cell := ⟨_, _, _, leB⟩, cls := Option.isSome_iff_exists.mp iB, sub := moB, top := toB, opq := opB, along := alB, subB := vB, codeq := cqB }
  have biB := Binds.all (K := K) (fd := PySem.W.fnX "__init__" "Barred.__init__" (defArgs sBInit) (defBody sBInit) (defScope sBInit) [("__class__", ccB)] .none .none docB pmB none (.ref cdaB) ctvB) (ps := ["self", "heads"]) fun us hl => match us, hl with | [_, _], _ => rfl
  have EB : ∀ base : Heap, ErL l.prog w K mg base "Barred" CB "heads" := fun base => ⟨OB, ⟨_, _, aiB, tiB, ok_Barred_init SB T OB nhB, biB⟩, mB⟩
  have Fstands_behind := fun_mk (st := sStands) lstands_behind cstands_behind kstands_behind
  have bstands_behind := Fstands_behind.binds (ps := ["name", "rows"]) fun _ _ _ _ _ _ us hl => match us, hl with | [_, _], _ => rfl
  have Fwithout_head := fun_mk (st := sWithout) lwithout_head cwithout_head kwithout_head
  have bwithout_head := Fwithout_head.binds (ps := ["rows", "head"]) fun _ _ _ _ _ _ us hl => match us, hl with | [_, _], _ => rfl
  have Fall_heads := fun_mk (st := sHeads) lall_heads call_heads kall_heads
  have ball_heads := Fall_heads.binds (ps := ["rows"]) fun _ _ _ _ _ _ us hl => match us, hl with | [_], _ => rfl
  have Ffree_head := fun_mk (st := sFree) lfree_head cfree_head kfree_head
  have bfree_head := Ffree_head.binds (ps := ["rows"]) fun _ _ _ _ _ _ us hl => match us, hl with | [_], _ => rfl
  have Fmerge := fun_mk (st := sPMerge) lmerge cmerge kmerge
  have bmerge := Fmerge.binds (ps := ["rows"]) fun _ _ _ _ _ _ us hl => match us, hl with | [_], _ => rfl
  have Forder_of := fun_mk (st := sOrderOf) lorder_of corder_of korder_of
  have border_of := Forder_of.binds (ps := ["bases", "name", "known"]) fun _ _ _ _ _ _ us hl => match us, hl with | [_, _, _], _ => rfl
  have Dstands_behind : ∀ base : Heap, Df l.prog w K mg base "stands_behind" 1 ["name", "rows"] (spStands K) := fun base => ⟨_, _, ok_stands_behind Fstands_behind T, PySem.W.mg_of X G astands_behind, kstands_behind, bstands_behind⟩
  have Dwithout_head : ∀ base : Heap, Df l.prog w K mg base "without_head" 1 ["rows", "head"] (spWithout K) := fun base => ⟨_, _, ok_without_head Fwithout_head T, PySem.W.mg_of X G awithout_head, kwithout_head, bwithout_head⟩
  have Dall_heads : ∀ base : Heap, Df l.prog w K mg base "all_heads" 1 ["rows"] (spHeads K) := fun base => ⟨_, _, ok_all_heads Fall_heads T, PySem.W.mg_of X G aall_heads, kall_heads, ball_heads⟩
  have Dfree_head : ∀ base : Heap, Dx l.prog w K mg base "free_head" 3 ["rows"] (spFree K CB) := fun base => ⟨_, _, ok_free_head Ffree_head T (EB base) (Dstands_behind base) (Dall_heads base), PySem.W.mg_of X G afree_head, kfree_head, bfree_head⟩
  have Dmerge : ∀ base : Heap, Dx l.prog w K mg base "merge" 4 ["rows"] (spPMerge K CB) := fun base => ⟨_, _, ok_pmerge Fmerge T (Dfree_head base) (Dwithout_head base), PySem.W.mg_of X G amerge, kmerge, bmerge⟩
  have Dorder_of : ∀ base : Heap, Dx l.prog w K mg base "order_of" 26 ["bases", "name", "known"] (spOrder K CB 21) := fun base => ⟨_, _, ok_order_of Forder_of T (Dmerge base) (PySem.W.mg_of X G aorder_of) korder_of border_of 21, PySem.W.mg_of X G aorder_of, korder_of, border_of⟩
  have Flin := fun_mk (st := sLinearize) llinearize clinearize klinearize
  have FnLin := fun base : Heap => ok_linearize Flin T (Dorder_of base)
  have mLin := PySem.W.mg_of X G alinearize
  have bLin : ∃ g, KBn K (PySem.W.fnOf "linearize" "linearize" (defArgs sLinearize) (defBody sLinearize) (defScope sLinearize) .none kVlinearize dclinearize pmlinearize anlinearize cdlinearize ctlinearize) ["bases", "name"] 0 ["name", "bases"] g (fun vs zs => vs ++ zs.reverse) :=
    ⟨fun us ws => us ++ ws.reverse, ⟨fun s us ws _ h1 h2 => match us, ws, h1, h2 with | [], [_, _], _, _ => .of_eq rfl, fun r1 r2 => r1.append (Vals.reverse r2)⟩⟩
  have Fsource := fun_mk (st := sSource) lsource csource ksource
  have bsource := Fsource.binds (ps := ["_law_script"]) fun _ _ _ _ _ _ us hl => match us, hl with | [_], _ => rfl
  have Fdraw := fun_mk (st := sDraw) ldraw cdraw kdraw
  have bdraw := Fdraw.binds (ps := ["_law_source_here", "_law_limit"]) fun _ _ _ _ _ _ us hl => match us, hl with | [_, _], _ => rfl
  have Fasked := fun_mk (st := sAsked) lasked casked kasked
  have basked := Fasked.binds (ps := ["_law_table", "_law_which"]) fun _ _ _ _ _ _ us hl => match us, hl with | [_, _], _ => rfl
  have Dsource : ∀ base : Heap, Df l.prog w K mg base "_law_source" 1 ["_law_script"] (spSource K) := fun base => ⟨_, _, ok_source Fsource T, PySem.W.mg_of X G asource, ksource, bsource⟩
  have Ddraw : ∀ base : Heap, Df l.prog w K mg base "_law_draw" 1 ["_law_source_here", "_law_limit"] spDraw := fun base => ⟨_, _, ok_draw Fdraw T, PySem.W.mg_of X G adraw, kdraw, bdraw⟩
  have Dasked : ∀ base : Heap, Df l.prog w K mg base "_law_asked" 28 ["_law_table", "_law_which"] (spAsked K) := fun base => ⟨_, _, ok_asked Fasked T mB exB XB nhB (FnLin base) mLin klinearize bLin, PySem.W.mg_of X G aasked, kasked, basked⟩
  exact ⟨_, fun s v => .of_eq rfl, fun base _ _ => ok_law (fun_mk (st := sLaw) llaw claw klaw) T (Dsource base) (Ddraw base) (Dasked base)⟩
theorem walk {l : PySem.W.OpenLaw} {q : Program} {loose : List Str} {XP : (Str → Option Value) → Heap → Prop} {YP : World → Heap → Prop} {d : DefRec} {K : Params → PySem.W.Frag} (hn : l.most = some 63) (hdf : d.params.defaults = [])
    (hY : ∀ (w : World) (h : Heap), YP w h → (K w.params).In h)
    (F : ∀ (w : World) (mg : Str → Option Value) (fa : Addr) (h : Heap), (K w.params).In h → h.Ns mainGlobals mg → mg d.name = some (.ref fa) →
      ∃ fd : FuncData, (∀ (s : Shared) (u : Value), BindsTo s fd ⟨[u], []⟩ [("_law_script", u)]) ∧ ∀ base : Heap, (K w.params).In base → base.Ns mainGlobals mg → FnOk l.prog w (K w.params) mg base CX0 29 fa fd ["_law_script"] (spLaw (K w.params))) :
    PySem.W.WalkO q loose XP YP l.row.toRowW d [] (fun f vs => PySem.call f vs) :=
  L2.walk_of (n := 63) (k := 29) (x := "_law_script") (CX := fun _ => CX0) (sp := fun w => spLaw (K w.params)) hn (by decide) hdf ⟨rfl, by decide, by decide⟩ hY F (fun _ _ a ns hl _ hS => ⟨a, ns, rfl, hS, hl, fun _ => rfl⟩) fun _ _ _ _ _ z => z
end Dz

open PySem PySem.W PyProof.Rows in
set_option maxRecDepth 100000 in
set_option maxHeartbeats 0 in
theorem PySem.Challenge.cw_everydoor_k12_orders_by_other_names_holds : PySem.Challenge.rw_everydoor_k12_orders_by_other_names.Holds := by
  w_on; o_law; k_head; (case hw => w_witness2)
  k_fill
  refine Dz.walk (l := PySem.Challenge.rw_everydoor_k12_orders_by_other_names) rfl rfl (fun w h Y => PySem.W.kIn_of Y) ?F
  case F =>
    intro w mg fa h KX G hmg
    refine' Dz.all_mk KX G hmg ?aB ?xB ?rvB ?saB ?gaB ?ggB ?nhB ?eB ?vB ?tB ?kB ?hB ?iB ?sB ?aiB ?tiB ?liB ?lcB ?vfB ?ffB ?leB ?moB ?toB ?opB ?alB ?cqB ?astands_behind ?lstands_behind ?cstands_behind ?kstands_behind ?awithout_head ?lwithout_head ?cwithout_head ?kwithout_head ?aall_heads ?lall_heads ?call_heads ?kall_heads ?afree_head ?lfree_head ?cfree_head ?kfree_head ?amerge ?lmerge ?cmerge ?kmerge ?aorder_of ?lorder_of ?corder_of ?korder_of ?alinearize ?llinearize ?clinearize ?klinearize ?asource ?lsource ?csource ?ksource ?adraw ?ldraw ?cdraw ?kdraw ?aasked ?lasked ?casked ?kasked ?alaw ?llaw ?claw ?klaw ?zint ?zlen ?zrange ?zstr ?zbool ?zlist ?ztuple ?zdict ?zset ?zisinstance ?zall ?zany ?zmin ?zmax ?zsorted ?zenumerate ?zabs ?zsum ?zzip ?zreversed ?zsuper
    (case aB => k_is)
    (case xB => k_is)
    (case rvB => decide +kernel)
    (case saB => k_is)
    (case gaB => k_is)
    (case ggB => k_is)
    (case nhB => k_is)
    (case eB => k_is)
    (case vB => k_is)
    (case tB => k_is)
    (case kB => k_is)
    (case hB => k_is)
    (case iB => k_is)
    (case sB => first | rfl | k_is)
    (case aiB => k_is)
    (case tiB => k_is)
    (case liB => k_is)
    (case lcB => k_is)
    (case vfB => exact rfl)
    (case ffB => decide +kernel)
    (case leB => k_is)
    (case moB => k_is)
    (case toB => decide +kernel)
    (case opB => k_is)
    (case alB => ks_is)
    (case cqB => k_is)
    (case astands_behind => k_is)
    (case lstands_behind => k_is)
    (case cstands_behind => k_is)
    (case kstands_behind => k_is)
    (case awithout_head => k_is)
    (case lwithout_head => k_is)
    (case cwithout_head => k_is)
    (case kwithout_head => k_is)
    (case aall_heads => k_is)
    (case lall_heads => k_is)
    (case call_heads => k_is)
    (case kall_heads => k_is)
    (case afree_head => k_is)
    (case lfree_head => k_is)
    (case cfree_head => k_is)
    (case kfree_head => k_is)
    (case amerge => k_is)
    (case lmerge => k_is)
    (case cmerge => k_is)
    (case kmerge => k_is)
    (case aorder_of => k_is)
    (case lorder_of => k_is)
    (case corder_of => k_is)
    (case korder_of => k_is)
    (case alinearize => k_is)
    (case llinearize => k_is)
    (case clinearize => k_is)
    (case klinearize => k_is)
    (case asource => k_is)
    (case lsource => k_is)
    (case csource => k_is)
    (case ksource => k_is)
    (case adraw => k_is)
    (case ldraw => k_is)
    (case cdraw => k_is)
    (case kdraw => k_is)
    (case aasked => k_is)
    (case lasked => k_is)
    (case casked => k_is)
    (case kasked => k_is)
    (case alaw => k_is)
    (case llaw => k_is)
    (case claw => k_is)
    (case klaw => k_is)
    (case zint => k_is)
    (case zlen => k_is)
    (case zrange => k_is)
    (case zstr => k_is)
    (case zbool => k_is)
    (case zlist => k_is)
    (case ztuple => k_is)
    (case zdict => k_is)
    (case zset => k_is)
    (case zisinstance => k_is)
    (case zall => k_is)
    (case zany => k_is)
    (case zmin => k_is)
    (case zmax => k_is)
    (case zsorted => k_is)
    (case zenumerate => k_is)
    (case zabs => k_is)
    (case zsum => k_is)
    (case zzip => k_is)
    (case zreversed => k_is)
    (case zsuper => k_is)
