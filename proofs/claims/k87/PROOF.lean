import PyProof.Rows.All
import Wide.All
import OpenK.AllK
import Wide.FinOn
import HandS.ForMost
import HandS.Wide
import HandS.More
import HandS.StrMore
import HandS.FStr
import HandS.IsInst
import HandS.TupAny
import HandS.Style
import HandS.Exc
import HandS.TryOnly
import HandS.ExcOwn
import HandS.WordsExc
import HandS.Evl
import HandS.Codes
import HandS.SortKw
import KE.DatumOrd
import HandS.Replace
import HandS.ReplaceList
import HandS.TryMany
import HandS.RaiseMore
import HandS.DictComp
import KE.GoesEnumKw
import KE.GoesMore
import KE.SortData
import KE.KDictPairs
import KE.GoesEnum
import HandS.ExcIs
import HandS.ExcValue
import PyProof.RulesAs
import HandS.MakeKwOnly
import HandS.CallSlots
import HandS.Rev
import HandS.Zip
import HandS.TupMul
import PyProof.ReprRoads
import PySem.Challenge.RW_heldpasts_k87_notes_and_histories_judged
set_option Elab.async false
set_option linter.all false
set_option maxRecDepth 100000
set_option maxHeartbeats 4000000
/-! ### my rules: one name an operator, whatever the kinds -/
namespace My
open PySem PySem.Spec PyProof.Rows L2
section
variable {X : Cx}
theorem hu_64 {A : Around} {k : Nat} (hr : Room k A) : A.units + 64 < cLine := hr.units
/-! #### + -/
def rAddS : R2 := fun x y H Q => ∃ i j, x = .str i ∧ y = .str j ∧ i.length + j.length ≤ sizeLine ∧ Q (.str (i ++ j)) H
def rADD (K : PySem.W.Frag) : R2 := fun x y H Q => rI0 (fun i j => .int (i + j)) x y H Q ∨ rAddS x y H Q ∨ rCat x y H Q ∨ rCatA K x y H Q
theorem op_ADD : OpR X (binaryOp .Add) (rADD X.K) := op_add.or (OpR.or (r := rAddS) op_add_str (op_cat.or op_catA))
def rSUB : R2 := rI0 fun i j => .int (i - j)
theorem op_SUB : OpR X (binaryOp .Sub) rSUB := op_sub
/-! #### * -/
theorem cps_repl (l : Array Nat) (k : Nat) : (List.replicate k l).foldl (· ++ ·) #[] = ((List.replicate k l.toList).flatten).toArray := by
  have h : ∀ (n : Nat) (acc : Array Nat), (List.replicate n l).foldl (· ++ ·) acc = acc ++ ((List.replicate n l.toList).flatten).toArray := by
    intro n
    induction n with
    | zero => intro acc; simp
    | succ n ih =>
      intro acc
      rw [List.replicate_succ, List.foldl_cons, ih, List.replicate_succ, List.flatten_cons]
      apply Array.ext'
      simp
  rw [h]
  simp
/-- a text so many times -/
def repS (x : Str) (k : Int) : Str := ⟨((List.replicate k.toNat x.cps.toList).flatten).toArray⟩
def rMulS : R2 := fun x y H Q => ∃ z k, x = .str z ∧ y = .int k ∧ -(2 ^ 63) ≤ k ∧ k < 2 ^ 63 ∧ z.length * k.toNat ≤ sizeLine ∧ Q (.str (repS z k)) H
theorem op_mul_str : OpR X (binaryOp .Mult) rMulS := by
  intro pins s σ H x y v u Q I rx ry h
  obtain ⟨z, k, rfl, rfl, h1, h2, hz, q⟩ := h
  obtain ⟨t, rfl⟩ := rx
  obtain ⟨t', rfl⟩ := ry
  have hz' : z.length * k.toNat ≤ 2 ^ 24 := hz
  refine P.mul_str ?_ ?_ ?_ ?_
  · rw [decide_eq_false (by omega), decide_eq_false (by omega)]; rfl
  · intro h1 h3
    have hk : 0 < k := by omega
    have h4 : (z.length : Int) * k ≤ 2 ^ 24 := by
      have : ((z.length * k.toNat : Nat) : Int) ≤ 2 ^ 24 := by exact_mod_cast hz'
      rw [Int.natCast_mul, Int.toNat_of_nonneg (by omega)] at this
      exact this
    intro h5
    have h6 : (2 ^ 63 - 1) / k < (z.length : Int) := h5
    have h7 := (Int.ediv_lt_iff_lt_mul hk).mp h6
    omega
  · intro h1 h3
    exact decide_eq_false (Nat.not_lt.mpr hz)
  · by_cases h3 : k < 1
    · rw [if_pos h3]
      have e : repS z k = Str.empty := by
        unfold repS
        rw [show k.toNat = 0 by omega]
        rfl
      rw [e] at q
      exact ⟨by decide, ⟨.str Str.empty, H, I.tok _, ⟨_, rfl⟩, q⟩⟩
    · rw [if_neg h3]
      by_cases h4 : (k == 1 || z.length == 0) = true
      · rw [if_pos h4]
        have e : repS z k = z := by
          unfold repS
          rcases Bool.or_eq_true _ _ ▸ h4 with h5 | h5
          · rw [show k.toNat = 1 by have := of_decide_eq_true h5; omega]
            simp
          · have h6 : z.length = 0 := by simpa using h5
            have h7 : z.cps.toList = [] := by
              apply List.eq_nil_of_length_eq_zero
              rw [Array.length_toList]
              exact h6
            rw [h7]
            rcases z with ⟨c⟩
            have h8 : c = #[] := Array.ext' (by simpa using h7)
            subst h8
            simp
        rw [e] at q
        exact ⟨.str z, H, I, ⟨_, rfl⟩, q⟩
      · rw [if_neg h4]
        refine ⟨?_, ⟨.str (repS z k), H, I.tok _, ⟨s.toks, ?_⟩, q⟩⟩
        · show Str.length ⟨_⟩ ≤ sizeLine
          rw [cps_repl]
          show (List.toArray _).size ≤ sizeLine
          rw [List.size_toArray, List.length_flatten, List.map_replicate, List.sum_replicate_nat, Array.length_toList]
          show k.toNat * z.length ≤ sizeLine
          rw [Nat.mul_comm]
          exact hz
        · rw [cps_repl]
          rfl
def CMulA (i j : Int) : Prop := CMul i j ∨ CMulW i j
def rMulI : R2 := fun x y H Q => ∃ i j, x = .int i ∧ y = .int j ∧ CMulA i j ∧ Q (.int (i * j)) H
theorem op_mulA : OpR X (binaryOp .Mult) rMulI := opI fun _ _ _ _ _ _ _ hc q => mul_int q (hc.elim (fun h => h.ok) fun h => h.ok)
def rMUL (K : PySem.W.Frag) : R2 := fun x y H Q => rMulI x y H Q ∨ rMulS x y H Q ∨ rRep x y H Q
theorem op_MUL : OpR X (binaryOp .Mult) (rMUL X.K) := op_mulA.or (op_mul_str.or op_rep)
/-! #### //, percent, ** -/
def rMOD : R2 := rI (fun _ j => 0 < j) fun i j => .int (i % j)
theorem op_MOD : OpR X (binaryOp .Mod) rMOD := op_mod
def rFDIV : R2 := rI CDivW fun i j => .int (i / j)
theorem op_FDIV : OpR X (binaryOp .FloorDiv) rFDIV := op_fdivW
def rPOW : R2 := rI CPow fun i j => .int (i ^ j.toNat)
theorem op_POW : OpR X (binaryOp .Pow) rPOW := op_pow
def rNEG : V → Hp → VK → Prop := rU fun i => .int (-i)
theorem un_NEG : UnR X (unaryOp .USub) rNEG := un_neg
/-! #### comparisons -/
def rEQ (K : PySem.W.Frag) : R2 := fun x y H Q => rEq x y H Q ∨ rEqD K x y H Q
theorem op_EQ (hu : X.A.units + 64 < cLine) : OpR X (compareOp .Eq) (rEQ X.K) := op_eq.or (op_eqD hu)
def rNE (K : PySem.W.Frag) : R2 := fun x y H Q => rNe x y H Q ∨ rNeD K x y H Q
theorem op_NE (hu : X.A.units + 64 < cLine) : OpR X (compareOp .NotEq) (rNE X.K) := op_ne.or (op_neD hu)
def rCI (p : Int → Int → Bool) : R2 := rI0 fun i j => .bl (p i j)
def rCS (p : List Nat → List Nat → Bool) : R2 := fun x y H Q => ∃ i j, x = .str i ∧ y = .str j ∧ Q (.bl (p i.cps.toList j.cps.toList)) H
def rLT : R2 := fun x y H Q => rCI (fun i j => decide (i < j)) x y H Q ∨ rCS (fun i j => decide (i < j)) x y H Q
theorem op_LT : OpR X (compareOp .Lt) rLT := OpR.or (r := rCI _) (r' := rCS _) op_lt op_lt_str
def rLE : R2 := fun x y H Q => rCI (fun i j => decide (i ≤ j)) x y H Q ∨ rCS (fun i j => !decide (j < i)) x y H Q
theorem op_LE : OpR X (compareOp .LtE) rLE := OpR.or (r := rCI _) (r' := rCS _) op_le op_le_str
def rGT : R2 := fun x y H Q => rCI (fun i j => decide (j < i)) x y H Q ∨ rCS (fun i j => decide (j < i)) x y H Q
theorem op_GT : OpR X (compareOp .Gt) rGT := OpR.or (r := rCI _) (r' := rCS _) op_gt op_gt_str
def rGE : R2 := fun x y H Q => rCI (fun i j => decide (j ≤ i)) x y H Q ∨ rCS (fun i j => !decide (i < j)) x y H Q
theorem op_GE : OpR X (compareOp .GtE) rGE := OpR.or (r := rCI _) (r' := rCS _) op_ge op_ge_str
/-- is: None; types; a truth on the right -/
def rIsT (f : Bool → Bool) : R2 := fun x y H Q => ∃ b, y = .bl b ∧ Q (.bl (f (decide (x = .bl b)))) H
theorem op_is_true : OpR X (compareOp .Is) (rIsT id) := by
  intro pins s σ H x y v u Q I rx ry h
  obtain ⟨b, rfl, q⟩ := h
  cases (show u = Value.bool b from ry)
  by_cases e : x = .bl b
  · subst e
    cases (show v = Value.bool b from rx)
    exact wpAny_is_self rfl ⟨.bl true, H, I, rfl, by simpa using q⟩
  · have ne : v ≠ Value.bool b := by
      rintro rfl
      apply e
      cases x <;> first
        | (cases rx; done)
        | (cases rx; rfl)
        | (obtain ⟨t, z⟩ := rx; cases z)
    have hp : plainIs v (Value.bool b) = true := by
      cases x <;> first
        | (cases rx; rfl)
        | (obtain ⟨t, rfl⟩ := rx; rfl)
    exact wpAny_is_other hp ne ⟨.bl false, H, I, rfl, by simpa [e] using q⟩
theorem op_isnot_true : OpR X (compareOp .IsNot) (rIsT not) := by
  intro pins s σ H x y v u Q I rx ry h
  obtain ⟨b, rfl, q⟩ := h
  cases (show u = Value.bool b from ry)
  by_cases e : x = .bl b
  · subst e
    cases (show v = Value.bool b from rx)
    exact wpAny_isNot_self rfl ⟨.bl false, H, I, rfl, by simpa using q⟩
  · have ne : v ≠ Value.bool b := by
      rintro rfl
      apply e
      cases x <;> first
        | (cases rx; done)
        | (cases rx; rfl)
        | (obtain ⟨t, z⟩ := rx; cases z)
    have hp : plainIs v (Value.bool b) = true := by
      cases x <;> first
        | (cases rx; rfl)
        | (obtain ⟨t, rfl⟩ := rx; rfl)
    exact wpAny_isNot_other hp ne ⟨.bl true, H, I, rfl, by simpa [e] using q⟩
def rIsN1 (f : Bool → Bool) : R2 := fun x y H Q => y = .non ∧ Q (.bl (f (decide (x = .non)))) H
def rIsTy (f : Bool → Bool) : R2 := fun x y H Q => ∃ m n, x = .ty m ∧ y = .ty n ∧ Q (.bl (f (decide (m = n)))) H
def rIS (_ : PySem.W.Frag) : R2 := fun x y H Q => rIsN1 id x y H Q ∨ rIsTy id x y H Q ∨ rIsT id x y H Q
theorem op_IS : OpR X (compareOp .Is) (rIS X.K) := OpR.or (r := rIsN1 id) op_isN (OpR.or (r := rIsTy id) op_isTyB op_is_true)
def rISN (_ : PySem.W.Frag) : R2 := fun x y H Q => rIsN1 not x y H Q ∨ rIsTy not x y H Q ∨ rIsT not x y H Q
theorem op_ISN : OpR X (compareOp .IsNot) (rISN X.K) := OpR.or (r := rIsN1 not) op_notN (OpR.or (r := rIsTy not) op_notTyB op_isnot_true)
/-- in: a sign in a text; in a list or tuple -/
def rInSg (f : Bool → Bool) : R2 := fun x y H Q => ∃ (c : Nat) (z : Str), x = .str ⟨#[c]⟩ ∧ y = .str z ∧ Q (.bl (f (decide (c ∈ z.cps.toList)))) H
def rINU (K : PySem.W.Frag) : R2 := fun x y H Q => rInSg id x y H Q ∨ rIn K false x y H Q
theorem op_IN : OpR X (compareOp .In) (rINU X.K) := OpR.or (r := rInSg id) op_in_sign op_in_seq
def rNINU (K : PySem.W.Frag) : R2 := fun x y H Q => rInSg not x y H Q ∨ rIn K true x y H Q
theorem op_NIN : OpR X (compareOp .NotIn) (rNINU X.K) := OpR.or (r := rInSg not) op_notIn_sign op_notIn_seq
/-! #### subscripts, slices -/
def rIX (K : PySem.W.Frag) : R2 := rIx K
theorem ix_SEQ : IxR X (rIX X.K) := ix_seq
def rSL (K : PySem.W.Frag) : V → Option Int → Option Int → Hp → VK → Prop := fun x lo hi H Q => rSlS x lo hi H Q ∨ rSlL K x lo hi H Q ∨ rSlA K x lo hi H Q
theorem sl_SEQ : SlR X (rSL X.K) := SlR.or sl_str (SlR.or sl_list sl_tupA)
/-! #### tests -/
def tTru1 (K : PySem.W.Frag) (ta : TE) : TT := fun σ H Q => ta σ H fun x H' => ∃ k, TruV K x H' k ∧ Q k H'
theorem pt_tru {a : Expr} {ta : TE} (ha : PE X a ta) (he : ∀ whole, isTrue a X.env whole = (do let v ← whole; standAt a.pos; holding [v] (truthy v))) : PT X a (tTru1 X.K ta) := pt_truth ha he
/-! #### the module's constants -/
theorem pe_cI {x : Str} {i : Int} {pos : Pos} (hg : Gl X x) (h : ∃ t, X.mg x = some (.int i t)) (hd : (x == ("__debug__" : Str)) = false := by decide) : PE X (.Name x pos) (tC (.int i)) := by
  obtain ⟨t, h⟩ := h
  exact pe_glob hg h ⟨t, rfl⟩ hd
theorem pe_cS {x : Str} {i : Str} {pos : Pos} (hg : Gl X x) (h : ∃ t, X.mg x = some (.str i t)) (hd : (x == ("__debug__" : Str)) = false := by decide) : PE X (.Name x pos) (tC (.str i)) := by
  obtain ⟨t, h⟩ := h
  exact pe_glob hg h ⟨t, rfl⟩ hd
theorem pe_cR {x : Str} {a : Addr} {pos : Pos} (hg : Gl X x) (h : X.mg x = some (.ref a)) (hd : (x == ("__debug__" : Str)) = false := by decide) : PE X (.Name x pos) (tC (.ref a)) := pe_glob hg h rfl hd
/-! #### calls with keywords alone -/
section
variable {CX : CXT} {k : Nat} {f C : Addr} {fd : FuncData} {ps ks : List Str} {sp : Sp} {E : XK} {x m : Str} {p pos apos kpos : Pos} {e o : Expr} {es : List Expr} {kws : List Keyword} {te ta : TE} {t tk : TA} {nm : Option Str}
variable {g : List Value → List Value → List Value} {gV : List V → List V → List V}
def tCallK0 (sp : Sp) (gV : List V → List V → List V) (E : XK) (tk : TA) : TE := fun σ H Q => tk σ H fun zs H2 => sp (gV [] zs) H2 Q E
theorem pe_callK0 (F : FnOk X.prog X.w X.K X.mg X.base CX k f fd ps sp) (hr : Room k X.A) (hg : Gl X x) (hm : X.mg x = some (.ref f)) (hk : PySem.W.keepIn X.K (.ref f) = true) (hb : KBinds X.K fd ps ks g gV) (hx : Passes CX X E)
    (hkw : PK X kws tk) (hall : (backToKw pos (keywordEach kws X.env)).all (·.1.isSome) = true := by rfl) (hks : (backToKw pos (keywordEach kws X.env)).filterMap (·.1) = ks := by rfl)
    (hdb : (x == ("__debug__" : Str)) = false := by decide)
    (hpl : ((backTo pos (starEach [] X.env)).any (·.1) || (backToKw pos (keywordEach kws X.env)).any (·.1.isNone)) = false := by rfl) :
    PE X (.Call (.Name x p) [] kws pos) (tCallK0 sp gV E tk) := by
  refine ⟨fun pins s σ H Q I h => ?_⟩
  refine wpAny_Call_Name_kw (ld_glob I hg hm ?_ hdb)
  refine PySem.W.callWith_KW0 (h₀ := X.base) I.ok.mod.kin hk hall ?_ hpl
  refine thn (hkw.run pos pins s σ H _ I h) fun ws s2 ⟨zs, H2, I2, rz, q2⟩ => ⟨I2.kIn, ?_⟩
  rw [hks]
  exact run_fnk (us := []) (vs := []) F hr hb hx I2 .nil rz q2
end
/-! #### built-ins -/
def rINT : List V → Hp → VK → Prop := fun xs H Q => ((∃ i, xs = [.int i] ∧ Q (.int i) H) ∨ ∃ k, xs = [.bl k] ∧ Q (.int (if k then 1 else 0)) H) ∨ ∃ a n, xs = [.str a] ∧ PySem.intText? a = some n ∧ a.length ≤ 640 ∧ Q (.int n) H
theorem call_INT : CallR X (.type "int") rINT := call_int1.or call_int_str
def rSTR : List V → Hp → VK → Prop := fun xs H Q => ∃ i, xs = [.int i] ∧ i.natAbs.log2 < 1920 ∧ Q (.str (toString i)) H
theorem call_STR : CallR X (.type "str") rSTR := call_str_int
def rTUPLE (K : PySem.W.Frag) : List V → Hp → VK → Prop := fun xs H Q => ∃ p ys, xs = [.ref p] ∧ ((SqL K H p ys ∧ ∀ l, H l = none → Q (.ref l) (upd H l (.tup ys))) ∨ (SqT K H p ys ∧ Q (.ref p) H))
theorem call_TUPLE : CallR X (.type "tuple") (rTUPLE X.K) := call_tuple_of
def rLIST (K : PySem.W.Frag) : List V → Hp → VK → Prop := fun xs H Q => ∃ p ys, xs = [.ref p] ∧ (SqL K H p ys ∨ SqT K H p ys) ∧ ∀ l, H l = none → Q (.ref l) (upd H l (.lst ys))
theorem call_LIST : CallR X (.type "list") (rLIST X.K) := call_list_of
def rLenQ (K : PySem.W.Frag) : List V → Hp → VK → Prop := fun xs H Q => ∃ p ys, xs = [.ref p] ∧ (SqL K H p ys ∨ SqT K H p ys) ∧ Q (.int ys.length) H
def rLenS : List V → Hp → VK → Prop := fun xs H Q => ∃ z, xs = [.str z] ∧ z.length ≤ sizeLine ∧ Q (.int z.length) H
def rLEN (K : PySem.W.Frag) : List V → Hp → VK → Prop := fun xs H Q => rLenS xs H Q ∨ rLenQ K xs H Q
theorem call_LEN : CallR X (.builtin "len") (rLEN X.K) := CallR.or (r := rLenS) (r' := rLenQ X.K) call_len_str call_len_seq
def rABS : List V → Hp → VK → Prop := fun xs H Q => ∃ i, xs = [.int i] ∧ Q (.int (if i < 0 then -i else i)) H
theorem call_ABS : CallR X (.builtin "abs") rABS := call_abs
def rMAX2 : List V → Hp → VK → Prop := fun xs H Q => ∃ i j, xs = [.int i, .int j] ∧ Q (.int (if j > i then j else i)) H
theorem call_MAX2 (hc : X.calm = true) : CallR X (.builtin "max") rMAX2 := call_max2 hc
def rMIN2 : List V → Hp → VK → Prop := fun xs H Q => ∃ i j, xs = [.int i, .int j] ∧ Q (.int (if j < i then j else i)) H
theorem call_MIN2 (hc : X.calm = true) : CallR X (.builtin "min") rMIN2 := call_min2 hc
def rISI (K : PySem.W.Frag) : List V → Hp → VK → Prop := fun xs H Q => rIsi K xs H Q ∨ rIsiT K xs H Q
theorem call_ISI : CallR X (.builtin "isinstance") (rISI X.K) := call_isi.or call_isiT
/-! #### methods -/
def rM_isascii : V → List V → Hp → VK → Prop := fun x xs H Q => ∃ a, x = .str a ∧ xs = [] ∧ True ∧ Q (.bl (Txt.isascii a)) H
def rM_isprintable : V → List V → Hp → VK → Prop := fun x xs H Q => ∃ a, x = .str a ∧ xs = [] ∧ True ∧ Q (.bl (Txt.isprintable a)) H
def rM_isdigit : V → List V → Hp → VK → Prop := fun x xs H Q => ∃ a, x = .str a ∧ xs = [] ∧ True ∧ Q (.bl (Txt.isdigit a)) H
def rM_find : V → List V → Hp → VK → Prop := fun x xs H Q => ∃ a b, x = .str a ∧ xs = [.str b] ∧ Q (.int (Txt.find a b)) H
def rM_zfill : V → List V → Hp → VK → Prop := fun x xs H Q => ∃ (a : Str) (i : Int), x = .str a ∧ xs = [.int i] ∧ PadOk i = true ∧ Q (.str (Txt.zfill a i)) H
def rM_rjust : V → List V → Hp → VK → Prop := fun x xs H Q => ∃ (a : Str) (i : Int), x = .str a ∧ xs = [.int i] ∧ PadOk i = true ∧ Q (.str (Txt.rjust a i)) H
def rJoin (K : PySem.W.Frag) : V → List V → Hp → VK → Prop := fun x xs H Q => ∃ a p, ∃ ys : List Str, x = .str a ∧ xs = [.ref p] ∧ (SqL K H p (ys.map V.str) ∨ SqT K H p (ys.map V.str)) ∧
      (ys.map (·.length)).sum + ys.length * a.length ≤ 16777216 ∧ Q (.str (Txt.join a ys)) H
def rPOP : V → List V → Hp → VK → Prop := rPopAt
theorem mt_POP : MtR X "list.pop" rPOP := mt_popAt
theorem mt_FIND : MtR X "str.find" rM_find := mt_find
theorem mt_ZFILL : MtR X "str.zfill" rM_zfill := mt_zfill
theorem mt_RJUST : MtR X "str.rjust" rM_rjust := mt_rjust
/-- {x:0wd}: a number not below 0, with noughts ahead up to w signs -/
def zpad (w : Nat) (i : Int) : Str := ⟨(List.replicate (w - (Nat.toDigits 10 i.toNat).length) 48 ++ (Nat.toDigits 10 i.toNat).map Char.toNat).toArray⟩
end
end My

set_option Elab.async false
set_option linter.all false
set_option maxRecDepth 100000
set_option maxHeartbeats 400000
namespace My
open PySem PySem.Spec PyProof.Rows L2
section
variable {X : Cx}
theorem zpad_of {w : Nat} {a : Int} {D : List Nat} (h0 : 0 ≤ a) (hD : D = (Nat.toDigits 10 a.natAbs).map Char.toNat) (p1 : Nat) (p2 : Nat) (h1 : p1 = w - D.length) (h2 : p2 = 0) :
    (⟨(List.replicate 0 48 ++ [] ++ [] ++ List.replicate p2 48 ++ (List.replicate p1 48 ++ D) ++ [] ++ List.replicate 0 48).toArray⟩ : Str) = zpad w a := by
  subst hD h1 h2
  unfold zpad
  have e : a.natAbs = a.toNat := by omega
  rw [e, List.length_map]
  simp
theorem zpad_len {w : Nat} {a : Int} (h0 : 0 ≤ a) (hl : a.natAbs.log2 < 1920) (hw : w ≤ 100) : (zpad w a).length ≤ sizeLine := by
  have h1 : (Nat.toDigits 10 a.toNat).length ≤ 1921 := by
    have h2 : a.toNat < 10 ^ 1921 := by
      have h3 : a.toNat < 2 ^ 1920 := by
        have h4 : a.toNat = a.natAbs := by omega
        rw [h4]
        by_cases hz : a.natAbs = 0
        · rw [hz]; exact Nat.two_pow_pos _
        · exact (Nat.log2_lt hz).mp hl
      exact Nat.lt_of_lt_of_le h3 (Nat.le_trans (Nat.pow_le_pow_left (show 2 ≤ 10 by decide) 1920) (Nat.pow_le_pow_right (by decide) (by decide)))
    have h5 := (Nat.length_repr_le_iff (n := a.toNat) (k := 1921) (by decide)).mpr h2
    rwa [← String.length_toList, Nat.toList_repr] at h5
  show (List.toArray _).size ≤ sizeLine
  rw [List.size_toArray, List.length_append, List.length_replicate, List.length_map]
  exact Nat.le_trans (show _ ≤ 2100 by omega) (by decide)
theorem ret_text2 {M : Model} {A : Around} {E : Value → Shared → Prop} {s : Shared} {X T : PySem.Str} {Q : PySem.Fin → Shared → Prop} (e : X = T) (hL : T.length ≤ sizeLine) (h : ∀ t k, Q (.done (.ret (.str T t))) { s with toks := k }) : wpAny M A (retStr X) Q E s := by
  subst e
  exact PySem.W.KXf.ret_text rfl hL h
theorem fmt0_meets_3 {a : Int} {t : Tok} (h0 : 0 ≤ a) (hl : a.natAbs.log2 < 1920) :
  ∀ u, Meets (Builtin.«int.__format__» ⟨[.int a t, .str (Str.ofString "03d") u], []⟩) (fun _ R s => ∀ t' k, R (.ok (.ret (.str (zpad 3 a) t'))) { s with toks := k }) := by
  have hn : decide (a < 0) = false := decide_eq_false (by omega)
  intro u
  apply PySem.W.KPc.meets_of
  intro prog w A s Q E h
  unfold Builtin.«int.__format__»
  refine wpAny_bind (wpAny_of_eq (a := (_, _)) rfl ?_)
  refine wpAny_bind (wpAny_of_eq (a := _) rfl ?_)
  kxf_if
  refine wpAny_bind (wpAny_typeNameOf (T := "str") (typeIs_str _ _ _) (by decide) fun _ => ?_)
  refine wpAny_bind (wpAny_of_eq (a := some _) rfl ?_)
  kxf_if
  kxf_if
  refine wpAny_bind (wpAny_typeNameOfCut_int ?_)
  (repeat kxf_if)
  refine wpAny_bind (wpAny_of_eq (PySem.overDigitLimit_small hl) ?_)
  (repeat kxf_if)
  refine ret_text2 (T := zpad 3 a) ?_ (zpad_len h0 hl (by decide)) (fun t' k => h t' k)
  rw [hn]
  generalize hD : (List.map _ (Nat.toDigits _ a.natAbs)) = D
  have hD' : D = (Nat.toDigits 10 a.natAbs).map Char.toNat := hD.symm
  clear hD
  cases D with
  | nil => exact absurd (congrArg List.length hD') (by rw [List.length_map]; have := Nat.length_toDigits_pos (b := 10) (n := a.natAbs); simp; omega)
  | cons d ds =>
    refine zpad_of h0 hD' _ _ ?_ ?_
    · rfl
    · show ((3 : Int) - 0 - (((List.replicate (3 - (d :: ds).length) 48 ++ (d :: ds)).length : Nat) : Int)).toNat = 0
      rw [List.length_append, List.length_replicate]
      omega
theorem fmt0_meets_4 {a : Int} {t : Tok} (h0 : 0 ≤ a) (hl : a.natAbs.log2 < 1920) :
  ∀ u, Meets (Builtin.«int.__format__» ⟨[.int a t, .str (Str.ofString "04d") u], []⟩) (fun _ R s => ∀ t' k, R (.ok (.ret (.str (zpad 4 a) t'))) { s with toks := k }) := by
  have hn : decide (a < 0) = false := decide_eq_false (by omega)
  intro u
  apply PySem.W.KPc.meets_of
  intro prog w A s Q E h
  unfold Builtin.«int.__format__»
  refine wpAny_bind (wpAny_of_eq (a := (_, _)) rfl ?_)
  refine wpAny_bind (wpAny_of_eq (a := _) rfl ?_)
  kxf_if
  refine wpAny_bind (wpAny_typeNameOf (T := "str") (typeIs_str _ _ _) (by decide) fun _ => ?_)
  refine wpAny_bind (wpAny_of_eq (a := some _) rfl ?_)
  kxf_if
  kxf_if
  refine wpAny_bind (wpAny_typeNameOfCut_int ?_)
  (repeat kxf_if)
  refine wpAny_bind (wpAny_of_eq (PySem.overDigitLimit_small hl) ?_)
  (repeat kxf_if)
  refine ret_text2 (T := zpad 4 a) ?_ (zpad_len h0 hl (by decide)) (fun t' k => h t' k)
  rw [hn]
  generalize hD : (List.map _ (Nat.toDigits _ a.natAbs)) = D
  have hD' : D = (Nat.toDigits 10 a.natAbs).map Char.toNat := hD.symm
  clear hD
  cases D with
  | nil => exact absurd (congrArg List.length hD') (by rw [List.length_map]; have := Nat.length_toDigits_pos (b := 10) (n := a.natAbs); simp; omega)
  | cons d ds =>
    refine zpad_of h0 hD' _ _ ?_ ?_
    · rfl
    · show ((4 : Int) - 0 - (((List.replicate (4 - (d :: ds).length) 48 ++ (d :: ds)).length : Nat) : Int)).toNat = 0
      rw [List.length_append, List.length_replicate]
      omega
theorem fmt0_meets_6 {a : Int} {t : Tok} (h0 : 0 ≤ a) (hl : a.natAbs.log2 < 1920) :
  ∀ u, Meets (Builtin.«int.__format__» ⟨[.int a t, .str (Str.ofString "06d") u], []⟩) (fun _ R s => ∀ t' k, R (.ok (.ret (.str (zpad 6 a) t'))) { s with toks := k }) := by
  have hn : decide (a < 0) = false := decide_eq_false (by omega)
  intro u
  apply PySem.W.KPc.meets_of
  intro prog w A s Q E h
  unfold Builtin.«int.__format__»
  refine wpAny_bind (wpAny_of_eq (a := (_, _)) rfl ?_)
  refine wpAny_bind (wpAny_of_eq (a := _) rfl ?_)
  kxf_if
  refine wpAny_bind (wpAny_typeNameOf (T := "str") (typeIs_str _ _ _) (by decide) fun _ => ?_)
  refine wpAny_bind (wpAny_of_eq (a := some _) rfl ?_)
  kxf_if
  kxf_if
  refine wpAny_bind (wpAny_typeNameOfCut_int ?_)
  (repeat kxf_if)
  refine wpAny_bind (wpAny_of_eq (PySem.overDigitLimit_small hl) ?_)
  (repeat kxf_if)
  refine ret_text2 (T := zpad 6 a) ?_ (zpad_len h0 hl (by decide)) (fun t' k => h t' k)
  rw [hn]
  generalize hD : (List.map _ (Nat.toDigits _ a.natAbs)) = D
  have hD' : D = (Nat.toDigits 10 a.natAbs).map Char.toNat := hD.symm
  clear hD
  cases D with
  | nil => exact absurd (congrArg List.length hD') (by rw [List.length_map]; have := Nat.length_toDigits_pos (b := 10) (n := a.natAbs); simp; omega)
  | cons d ds =>
    refine zpad_of h0 hD' _ _ ?_ ?_
    · rfl
    · show ((6 : Int) - 0 - (((List.replicate (6 - (d :: ds).length) 48 ++ (d :: ds)).length : Nat) : Int)).toNat = 0
      rw [List.length_append, List.length_replicate]
      omega
theorem fmt0_meets_8 {a : Int} {t : Tok} (h0 : 0 ≤ a) (hl : a.natAbs.log2 < 1920) :
  ∀ u, Meets (Builtin.«int.__format__» ⟨[.int a t, .str (Str.ofString "08d") u], []⟩) (fun _ R s => ∀ t' k, R (.ok (.ret (.str (zpad 8 a) t'))) { s with toks := k }) := by
  have hn : decide (a < 0) = false := decide_eq_false (by omega)
  intro u
  apply PySem.W.KPc.meets_of
  intro prog w A s Q E h
  unfold Builtin.«int.__format__»
  refine wpAny_bind (wpAny_of_eq (a := (_, _)) rfl ?_)
  refine wpAny_bind (wpAny_of_eq (a := _) rfl ?_)
  kxf_if
  refine wpAny_bind (wpAny_typeNameOf (T := "str") (typeIs_str _ _ _) (by decide) fun _ => ?_)
  refine wpAny_bind (wpAny_of_eq (a := some _) rfl ?_)
  kxf_if
  kxf_if
  refine wpAny_bind (wpAny_typeNameOfCut_int ?_)
  (repeat kxf_if)
  refine wpAny_bind (wpAny_of_eq (PySem.overDigitLimit_small hl) ?_)
  (repeat kxf_if)
  refine ret_text2 (T := zpad 8 a) ?_ (zpad_len h0 hl (by decide)) (fun t' k => h t' k)
  rw [hn]
  generalize hD : (List.map _ (Nat.toDigits _ a.natAbs)) = D
  have hD' : D = (Nat.toDigits 10 a.natAbs).map Char.toNat := hD.symm
  clear hD
  cases D with
  | nil => exact absurd (congrArg List.length hD') (by rw [List.length_map]; have := Nat.length_toDigits_pos (b := 10) (n := a.natAbs); simp; omega)
  | cons d ds =>
    refine zpad_of h0 hD' _ _ ?_ ?_
    · rfl
    · show ((8 : Int) - 0 - (((List.replicate (8 - (d :: ds).length) 48 ++ (d :: ds)).length : Nat) : Int)).toNat = 0
      rw [List.length_append, List.length_replicate]
      omega
/-- 0wd: the specs that are served -/
def FmtW (spec : Str) (w : Nat) : Prop := (spec = Str.ofString "06d" ∧ w = 6) ∨ (spec = Str.ofString "04d" ∧ w = 4) ∨ (spec = Str.ofString "03d" ∧ w = 3) ∨ (spec = Str.ofString "08d" ∧ w = 8)
def tFmt0 (w : Nat) (te : TE) : TE := fun σ H Q => te σ H fun x H1 => ∃ i : Int, x = .int i ∧ 0 ≤ i ∧ i.natAbs.log2 < 1920 ∧ Q (.str (zpad w i)) H1
theorem pe_fmt0 (w : Nat) {spec : Str} {e : Expr} {te : TE} {j : Nat} {p1 p2 pos : Pos} (he : PE X e te) (hs : FmtW spec w := by first | exact .inl ⟨rfl, rfl⟩ | exact .inr (.inl ⟨rfl, rfl⟩) | exact .inr (.inr (.inl ⟨rfl, rfl⟩)) | exact .inr (.inr (.inr ⟨rfl, rfl⟩))) :
    PE X (.FormattedValue e (-1) (some (.JoinedStr [.Constant (.str spec) j p1] p2)) pos) (tFmt0 w te) := by
  refine ⟨fun pins s σ H Q I h => ?_⟩
  refine wpAny_FormattedValue_spec (thn (he.run pins s σ H _ I h) fun v s1 hv => ?_)
  obtain ⟨x, H1, I1, r1, i, rfl, h0, hl, q⟩ := hv
  obtain ⟨t, rfl⟩ := r1
  refine wpAny_JoinedStr_one (Calls.Constant_str ⟨spec, _, rfl, ?_⟩)
  rcases hs with ⟨rfl, rfl⟩ | ⟨rfl, rfl⟩ | ⟨rfl, rfl⟩ | ⟨rfl, rfl⟩
  · exact PySem.W.KXf.field_int rfl (by decide) (by decide) (fmt0_meets_6 h0 hl) fun t' k => ⟨.str (zpad 6 i), H1, I1.tok _, ⟨t', rfl⟩, q⟩
  · exact PySem.W.KXf.field_int rfl (by decide) (by decide) (fmt0_meets_4 h0 hl) fun t' k => ⟨.str (zpad 4 i), H1, I1.tok _, ⟨t', rfl⟩, q⟩
  · exact PySem.W.KXf.field_int rfl (by decide) (by decide) (fmt0_meets_3 h0 hl) fun t' k => ⟨.str (zpad 3 i), H1, I1.tok _, ⟨t', rfl⟩, q⟩
  · exact PySem.W.KXf.field_int rfl (by decide) (by decide) (fmt0_meets_8 h0 hl) fun t' k => ⟨.str (zpad 8 i), H1, I1.tok _, ⟨t', rfl⟩, q⟩
end
end My

set_option Elab.async false
set_option linter.all false
set_option maxRecDepth 100000
set_option maxHeartbeats 400000
/-! ### readings, step by step -/
namespace My
open PySem PySem.Spec PyProof.Rows L2
abbrev St := L2.St
section
variable {K : PySem.W.Frag} {σ : St} {H : Hp} {Q : VK} {ta tb tc te : TE} {t u c : TT} {tr tr' : TA} {r r' : R2} {v x y z : V}
theorem x_var {i : Nat} (h : σ[i]? = some (some v)) (q : Q v H) : tVar i σ H Q := ⟨v, h, q⟩
theorem x_c (q : Q v H) : tC v σ H Q := q
theorem x_op (h : ta σ H fun x H1 => tb σ H1 fun y H2 => r x y H2 Q) : tOp r ta tb σ H Q := h
theorem x_un {r : V → Hp → VK → Prop} (h : ta σ H fun x H1 => r x H1 Q) : tUn r ta σ H Q := h
theorem x_tst {Q : Bool → Hp → Prop} (h : te σ H fun x H' => ∃ k, x = .bl k ∧ Q k H') : tTest te σ H Q := h
theorem x_bl {Q : Bool → Hp → Prop} {b : Bool} (h : Q b H) : ∃ k, V.bl b = .bl k ∧ Q k H := ⟨b, rfl, h⟩
theorem x_tru {Q : Bool → Hp → Prop} (h : ta σ H fun x H' => ∃ k, TruV K x H' k ∧ Q k H') : tTru1 K ta σ H Q := h
theorem x_truB {P : Bool → Prop} {b : Bool} (h : P b) : ∃ k, TruV K (.bl b) H k ∧ P k := ⟨b, rfl, h⟩
theorem x_truL {P : Bool → Prop} {p : Addr} {xs : List V} (hs : SqL K H p xs) (h : P (!xs.isEmpty)) : ∃ k, TruV K (.ref p) H k ∧ P k := ⟨_, .inl ⟨xs, hs, rfl⟩, h⟩
theorem x_truT {P : Bool → Prop} {p : Addr} {xs : List V} (hs : SqT K H p xs) (h : P (!xs.isEmpty)) : ∃ k, TruV K (.ref p) H k ∧ P k := ⟨_, .inr (.inl ⟨xs, hs, rfl⟩), h⟩
theorem x_truS {P : Bool → Prop} {s : Str} (hs : s.length ≤ sizeLine) (h : P ((s.length : Int) != 0)) : ∃ k, TruV K (.str s) H k ∧ P k := ⟨_, ⟨hs, rfl⟩, h⟩
theorem x_not {Q : Bool → Hp → Prop} (h : t σ H fun c H1 => Q (!c) H1) : tNot t σ H Q := h
theorem x_and {Q : Bool → Hp → Prop} (h : t σ H fun c H1 => if c = true then u σ H1 Q else Q false H1) : tAnd t u σ H Q := h
theorem x_or {Q : Bool → Hp → Prop} (h : t σ H fun c H1 => if c = true then Q true H1 else u σ H1 Q) : tOr t u σ H Q := h
theorem x_andV (h : ta σ H fun x H1 => ∃ c, x = .bl c ∧ if c = true then tb σ H1 Q else Q (.bl false) H1) : tAndV ta tb σ H Q := h
theorem x_orV (h : ta σ H fun x H1 => ∃ c, x = .bl c ∧ if c = true then Q (.bl true) H1 else tb σ H1 Q) : tOrV ta tb σ H Q := h
theorem x_notV (h : ta σ H fun x H1 => ∃ c, x = .bl c ∧ Q (.bl (!c)) H1) : tNotV ta σ H Q := h
theorem x_bl2 {b : Bool} {P : Bool → Prop} (h : P b) : ∃ k, V.bl b = .bl k ∧ P k := ⟨b, rfl, h⟩
theorem x_yes {Q : Bool → Hp → Prop} (h : Q true H) : tYes σ H Q := h
theorem x_if (h : c σ H fun b H1 => if b = true then ta σ H1 Q else tb σ H1 Q) : tIf c ta tb σ H Q := h
theorem x_nil {Q : List V → Hp → Prop} (q : Q [] H) : tNil σ H Q := q
theorem x_cons {Q : List V → Hp → Prop} (h : ta σ H fun x H1 => tr σ H1 fun xs H2 => Q (x :: xs) H2) : tCons ta tr σ H Q := h
theorem x_tup (h : tr σ H fun xs H1 => xs.length ≤ sizeLine ∧ ∀ p, H1 p = none → Q (.ref p) (upd H1 p (.tup xs))) : tTup tr σ H Q := h
theorem x_lst (h : tr σ H fun xs H1 => xs.length ≤ sizeLine ∧ ∀ p, H1 p = none → Q (.ref p) (upd H1 p (.lst xs))) : tLst tr σ H Q := h
theorem x_call {sp : Sp} {E : XK} (h : tr σ H fun vs H1 => sp vs H1 Q E) : tCall sp [] E tr σ H Q := by
  have e : (fun (vs : List V) (H1 : Hp) => sp (vs ++ []) H1 Q E) = fun vs H1 => sp vs H1 Q E := by funext vs H1; rw [List.append_nil]
  show tr σ H fun vs H1 => sp (vs ++ []) H1 Q E
  rw [e]
  exact h
theorem x_callK {sp : Sp} {gV : List V → List V → List V} {E : XK} (h : tr σ H fun vs H1 => tr' σ H1 fun zs H2 => sp (gV vs zs) H2 Q E) : tCallK sp gV E tr tr' σ H Q := h
theorem x_callK0 {sp : Sp} {gV : List V → List V → List V} {E : XK} (h : tr σ H fun zs H2 => sp (gV [] zs) H2 Q E) : tCallK0 sp gV E tr σ H Q := h
theorem x_cb {r : List V → Hp → VK → Prop} (h : tr σ H fun vs H1 => r vs H1 Q) : tCB r tr σ H Q := h
theorem x_bm {T : String} {r : V → List V → Hp → VK → Prop} (h : ta σ H fun x H1 => tyV K T x H1 ∧ tr σ H1 fun xs H2 => r x xs H2 Q) : tBM K T r ta tr σ H Q := h
theorem x_bm0 {T : String} {r : V → List V → Hp → VK → Prop} (h : ta σ H fun x H1 => tyV K T x H1 ∧ r x [] H1 Q) : tBM0 K T r ta σ H Q := h
theorem x_tyS {s : Str} {P : Prop} (h : P) : tyV K "str" (.str s) H ∧ P := ⟨rfl, h⟩
theorem x_tyL {p : Addr} {xs : List V} {P : Prop} (hs : SqL K H p xs) (h : P) : tyV K "list" (.ref p) H ∧ P := ⟨.inl ⟨rfl, xs, hs⟩, h⟩
theorem x_sl {r : V → Option Int → Option Int → Hp → VK → Prop} {tl th : TO} (h : te σ H fun x H1 => tl σ H1 fun l H2 => th σ H2 fun u H3 => r x l u H3 Q) : tSl r te tl th σ H Q := h
theorem x_nopart {Q : Option Int → Hp → Prop} (h : Q none H) : tNoPart σ H Q := h
theorem x_part {Q : Option Int → Hp → Prop} (h : te σ H fun x H1 => ∃ i, x = .int i ∧ Q (some i) H1) : tPart te σ H Q := h
theorem x_int {i : Int} {P : Int → Prop} (h : P i) : ∃ k, V.int i = .int k ∧ P k := ⟨i, rfl, h⟩
theorem x_str {s : Str} {P : Str → Prop} (h : P s) : ∃ k, V.str s = .str k ∧ P k := ⟨s, rfl, h⟩
theorem x_fmt (h : te σ H fun x H1 => (∃ y : Str, x = .str y ∧ y.length ≤ sizeLine ∧ Q (.str y) H1) ∨ ∃ i : Int, x = .int i ∧ i.natAbs.log2 < 1920 ∧ Q (.str (toString i)) H1) : tFmt te σ H Q := h
theorem x_fmtS {s : Str} {P : Int → Prop} (hs : s.length ≤ sizeLine) (h : Q (.str s) H) : (∃ y : Str, V.str s = .str y ∧ y.length ≤ sizeLine ∧ Q (.str y) H) ∨ ∃ i : Int, V.str s = .int i ∧ i.natAbs.log2 < 1920 ∧ Q (.str (toString i)) H := .inl ⟨s, rfl, hs, h⟩
theorem x_fmt0 {w : Nat} (h : te σ H fun x H1 => ∃ i : Int, x = .int i ∧ 0 ≤ i ∧ i.natAbs.log2 < 1920 ∧ Q (.str (zpad w i)) H1) : tFmt0 w te σ H Q := h
theorem x_fmtI {w : Nat} {i : Int} (h0 : 0 ≤ i) (hl : i.natAbs.log2 < 1920) (h : Q (.str (zpad w i)) H) : ∃ k : Int, V.int i = .int k ∧ 0 ≤ k ∧ k.natAbs.log2 < 1920 ∧ Q (.str (zpad w k)) H := ⟨i, rfl, h0, hl, h⟩
theorem x_js0 {acc : Str} {Q : Str → Hp → Prop} (h : Q acc H) : tJs [] acc σ H Q := h
theorem x_js {acc : Str} {Q : Str → Hp → Prop} {ts : List TE} (h : te σ H fun x H1 => ∃ y : Str, x = .str y ∧ (acc ++ y).length ≤ sizeLine ∧ tJs ts (acc ++ y) σ H1 Q) : tJs (te :: ts) acc σ H Q := h
theorem x_jsS {s acc : Str} {Q : Str → Hp → Prop} {ts : List TE} (hs : (acc ++ s).length ≤ sizeLine) (h : tJs ts (acc ++ s) σ H Q) : ∃ y : Str, V.str s = .str y ∧ (acc ++ y).length ≤ sizeLine ∧ tJs ts (acc ++ y) σ H Q := ⟨s, rfl, hs, h⟩
theorem x_chain (h : ta σ H fun x H1 => tb σ H1 fun y H2 => r x y H2 fun z H3 => ∃ k, z = .bl k ∧ (if k = true then tc σ H3 fun w' H4 => r' y w' H4 Q else Q (.bl false) H3)) : tChain r r' ta tb tc σ H Q := h
/-! leaves -/
theorem a_ii {i j : Int} (h : Q (.int (i + j)) H) : rADD K (.int i) (.int j) H Q := .inl ⟨i, j, rfl, rfl, h⟩
theorem a_ss {i j : Str} (hl : i.length + j.length ≤ sizeLine) (h : Q (.str (i ++ j)) H) : rADD K (.str i) (.str j) H Q := .inr (.inl ⟨i, j, rfl, rfl, hl, h⟩)
theorem a_ll {p q : Addr} {xs ys : List V} (hp : H p = some (.lst xs)) (hq : H q = some (.lst ys)) (hl : xs.length + ys.length ≤ sizeLine) (h : ∀ l, H l = none → Q (.ref l) (upd H l (.lst (xs ++ ys)))) : rADD K (.ref p) (.ref q) H Q :=
  .inr (.inr (.inl ⟨p, q, xs, ys, rfl, rfl, hp, hq, hl, h⟩))
theorem a_tt {p q : Addr} {xs ys : List V} (hp : SqT K H p xs) (hq : SqT K H q ys) (hl : xs.length + ys.length ≤ sizeLine) (h : (xs = [] → Q (.ref q) H) ∧ (xs ≠ [] → ys = [] → Q (.ref p) H) ∧ (xs ≠ [] → ys ≠ [] → ∀ l, H l = none → Q (.ref l) (upd H l (.tup (xs ++ ys))))) : rADD K (.ref p) (.ref q) H Q :=
  .inr (.inr (.inr ⟨p, q, xs, ys, rfl, rfl, hp, hq, hl, h⟩))
theorem s_ii {i j : Int} (h : Q (.int (i - j)) H) : rSUB (.int i) (.int j) H Q := ⟨i, j, rfl, rfl, h⟩
theorem m_ii {i j : Int} (hc : CMulA i j) (h : Q (.int (i * j)) H) : rMUL K (.int i) (.int j) H Q := .inl ⟨i, j, rfl, rfl, hc, h⟩
theorem m_si {s : Str} {k : Int} (h1 : -(2 ^ 63) ≤ k) (h2 : k < 2 ^ 63) (hl : s.length * k.toNat ≤ sizeLine) (h : Q (.str (repS s k)) H) : rMUL K (.str s) (.int k) H Q := .inr (.inl ⟨s, k, rfl, rfl, h1, h2, hl, h⟩)
theorem m_li {p : Addr} {xs : List V} {k : Int} (hp : H p = some (.lst xs)) (h1 : -(2 ^ 63) ≤ k) (h2 : k < 2 ^ 63) (hl : xs.length * k.toNat ≤ sizeLine) (h : ∀ l, H l = none → Q (.ref l) (upd H l (.lst (List.replicate k.toNat xs).flatten))) : rMUL K (.ref p) (.int k) H Q :=
  .inr (.inr ⟨p, k, xs, rfl, rfl, hp, h1, h2, hl, h⟩)
theorem md_ii {i j : Int} (hc : 0 < j) (h : Q (.int (i % j)) H) : rMOD (.int i) (.int j) H Q := ⟨i, j, rfl, rfl, hc, h⟩
theorem fd_ii {i j : Int} (hc : CDivW i j) (h : Q (.int (i / j)) H) : rFDIV (.int i) (.int j) H Q := ⟨i, j, rfl, rfl, hc, h⟩
theorem pw_ii {i j : Int} (hc : CPow i j) (h : Q (.int (i ^ j.toNat)) H) : rPOW (.int i) (.int j) H Q := ⟨i, j, rfl, rfl, hc, h⟩
theorem n_i {i : Int} (h : Q (.int (-i)) H) : rNEG (.int i) H Q := ⟨i, rfl, h⟩
theorem e_ii {i j : Int} (h : Q (.bl (decide (i = j))) H) : rEQ K (.int i) (.int j) H Q := .inl ⟨rfl, by rw [show decide (V.int i = V.int j) = decide (i = j) by simp]; exact h⟩
theorem e_ss {i j : Str} (h : Q (.bl (decide (i = j))) H) : rEQ K (.str i) (.str j) H Q := .inl ⟨rfl, by rw [show decide (V.str i = V.str j) = decide (i = j) by simp]; exact h⟩
theorem e_bb {i j : Bool} (h : Q (.bl (decide (i = j))) H) : rEQ K (.bl i) (.bl j) H Q := .inl ⟨rfl, by rw [show decide (V.bl i = V.bl j) = decide (i = j) by simp]; exact h⟩
theorem e_d {d e : PyData} (hd : Dp K H x d) (he : Dp K H y e) (h1 : SeqAt.shaped d = true) (h2 : SeqAt.shaped e = true) (h : Q (.bl (PyData.eqv d e)) H) : rEQ K x y H Q := .inr ⟨d, e, hd, he, h1, h2, h⟩
theorem ne_ii {i j : Int} (h : Q (.bl (!decide (i = j))) H) : rNE K (.int i) (.int j) H Q := .inl ⟨rfl, by rw [show decide (V.int i = V.int j) = decide (i = j) by simp]; exact h⟩
theorem ne_ss {i j : Str} (h : Q (.bl (!decide (i = j))) H) : rNE K (.str i) (.str j) H Q := .inl ⟨rfl, by rw [show decide (V.str i = V.str j) = decide (i = j) by simp]; exact h⟩
theorem ne_bb {i j : Bool} (h : Q (.bl (!decide (i = j))) H) : rNE K (.bl i) (.bl j) H Q := .inl ⟨rfl, by rw [show decide (V.bl i = V.bl j) = decide (i = j) by simp]; exact h⟩
theorem ne_d {d e : PyData} (hd : Dp K H x d) (he : Dp K H y e) (h1 : SeqAt.shaped d = true) (h2 : SeqAt.shaped e = true) (h : Q (.bl (!PyData.eqv d e)) H) : rNE K x y H Q := .inr ⟨d, e, hd, he, h1, h2, h⟩
theorem lt_ii {i j : Int} (h : Q (.bl (decide (i < j))) H) : rLT (.int i) (.int j) H Q := .inl ⟨i, j, rfl, rfl, h⟩
theorem lt_ss {i j : Str} (h : Q (.bl (decide (i.cps.toList < j.cps.toList))) H) : rLT (.str i) (.str j) H Q := .inr ⟨i, j, rfl, rfl, h⟩
theorem le_ii {i j : Int} (h : Q (.bl (decide (i ≤ j))) H) : rLE (.int i) (.int j) H Q := .inl ⟨i, j, rfl, rfl, h⟩
theorem gt_ii {i j : Int} (h : Q (.bl (decide (j < i))) H) : rGT (.int i) (.int j) H Q := .inl ⟨i, j, rfl, rfl, h⟩
theorem gt_ss {i j : Str} (h : Q (.bl (decide (j.cps.toList < i.cps.toList))) H) : rGT (.str i) (.str j) H Q := .inr ⟨i, j, rfl, rfl, h⟩
theorem ge_ii {i j : Int} (h : Q (.bl (decide (j ≤ i))) H) : rGE (.int i) (.int j) H Q := .inl ⟨i, j, rfl, rfl, h⟩
theorem is_N (h : Q (.bl (decide (x = .non))) H) : rIS K x .non H Q := .inl ⟨rfl, h⟩
theorem is_T {m n : String} (h : Q (.bl (decide (m = n))) H) : rIS K (.ty m) (.ty n) H Q := .inr (.inl ⟨m, n, rfl, rfl, h⟩)
theorem is_B {b : Bool} (h : Q (.bl (decide (x = .bl b))) H) : rIS K x (.bl b) H Q := .inr (.inr ⟨b, rfl, h⟩)
theorem isn_N (h : Q (.bl (!decide (x = .non))) H) : rISN K x .non H Q := .inl ⟨rfl, h⟩
theorem isn_T {m n : String} (h : Q (.bl (!decide (m = n))) H) : rISN K (.ty m) (.ty n) H Q := .inr (.inl ⟨m, n, rfl, rfl, h⟩)
theorem isn_B {b : Bool} (h : Q (.bl (!decide (x = .bl b))) H) : rISN K x (.bl b) H Q := .inr (.inr ⟨b, rfl, h⟩)
theorem in_s {c : Nat} {z : Str} (h : Q (.bl (decide (c ∈ z.cps.toList))) H) : rINU K (.str ⟨#[c]⟩) (.str z) H Q := .inl ⟨c, z, rfl, rfl, h⟩
theorem nin_s {c : Nat} {z : Str} (h : Q (.bl (!decide (c ∈ z.cps.toList))) H) : rNINU K (.str ⟨#[c]⟩) (.str z) H Q := .inl ⟨c, z, rfl, rfl, h⟩
theorem ix_L {p : Addr} {xs : List V} {i : Int} (hs : SqL K H p xs) (ha : atI xs i = some v) (h : Q v H) : rIX K (.ref p) (.int i) H Q := .inl ⟨p, xs, i, v, rfl, rfl, hs, ha, h⟩
theorem ix_T {p : Addr} {xs : List V} {i : Int} (hs : SqT K H p xs) (ha : atI xs i = some v) (h : Q v H) : rIX K (.ref p) (.int i) H Q := .inr (.inl ⟨p, xs, i, v, rfl, rfl, hs, ha, h⟩)
theorem ix_S {z : Str} {i : Int} {c : Nat} (hl : z.length ≤ sizeLine) (ha : atI z.cps.toList i = some c) (h : Q (.str ⟨#[c]⟩) H) : rIX K (.str z) (.int i) H Q := .inr (.inr ⟨z, i, c, rfl, rfl, hl, ha, h⟩)
theorem sl_S {z : Str} {lo hi : Option Int} (hl : z.length ≤ sizeLine) (h : Q (.str (cutS z lo hi)) H) : rSL K (.str z) lo hi H Q := .inl ⟨z, rfl, hl, h⟩
theorem sl_L {p : Addr} {xs : List V} {lo hi : Option Int} (hs : SqL K H p xs) (h : ∀ l, H l = none → Q (.ref l) (upd H l (.lst (cutV xs lo hi)))) : rSL K (.ref p) lo hi H Q := .inr (.inl ⟨p, xs, rfl, hs, h⟩)
theorem i_i {i : Int} (h : Q (.int i) H) : rINT [.int i] H Q := .inl (.inl ⟨i, rfl, h⟩)
theorem i_b {b : Bool} (h : Q (.int (if b then 1 else 0)) H) : rINT [.bl b] H Q := .inl (.inr ⟨b, rfl, h⟩)
theorem i_s {a : Str} {n : Int} (ha : PySem.intText? a = some n) (hl : a.length ≤ 640) (h : Q (.int n) H) : rINT [.str a] H Q := .inr ⟨a, n, rfl, ha, hl, h⟩
theorem st_i {i : Int} (hl : i.natAbs.log2 < 1920) (h : Q (.str (toString i)) H) : rSTR [.int i] H Q := ⟨i, rfl, hl, h⟩
theorem ln_s {z : Str} (hl : z.length ≤ sizeLine) (h : Q (.int z.length) H) : rLEN K [.str z] H Q := .inl ⟨z, rfl, hl, h⟩
theorem ln_l {p : Addr} {xs : List V} (hs : SqL K H p xs) (h : Q (.int xs.length) H) : rLEN K [.ref p] H Q := .inr ⟨p, xs, rfl, .inl hs, h⟩
theorem ln_t {p : Addr} {xs : List V} (hs : SqT K H p xs) (h : Q (.int xs.length) H) : rLEN K [.ref p] H Q := .inr ⟨p, xs, rfl, .inr hs, h⟩
theorem ab_i {i : Int} (h : Q (.int (if i < 0 then -i else i)) H) : rABS [.int i] H Q := ⟨i, rfl, h⟩
theorem mx_ii {i j : Int} (h : Q (.int (if j > i then j else i)) H) : rMAX2 [.int i, .int j] H Q := ⟨i, j, rfl, h⟩
theorem mn_ii {i j : Int} (h : Q (.int (if j < i then j else i)) H) : rMIN2 [.int i, .int j] H Q := ⟨i, j, rfl, h⟩
theorem ty_N (h : Q (.ty "NoneType") H) : rTyp K [.non] H Q := ⟨_, _, rfl, .non, h⟩
theorem ty_B {b : Bool} (h : Q (.ty "bool") H) : rTyp K [.bl b] H Q := ⟨_, _, rfl, .bl b, h⟩
theorem ty_I {i : Int} (h : Q (.ty "int") H) : rTyp K [.int i] H Q := ⟨_, _, rfl, .int i, h⟩
theorem ty_S {s : Str} (h : Q (.ty "str") H) : rTyp K [.str s] H Q := ⟨_, _, rfl, .str s, h⟩
theorem ty_L {p : Addr} {xs : List V} (hs : SqL K H p xs) (h : Q (.ty "list") H) : rTyp K [.ref p] H Q := ⟨_, _, rfl, .lst hs, h⟩
theorem ty_T {p : Addr} {xs : List V} (hs : SqT K H p xs) (h : Q (.ty "tuple") H) : rTyp K [.ref p] H Q := ⟨_, _, rfl, .tup hs, h⟩
theorem ma_s {s : Str} (h : Q (.bl (Txt.isascii s)) H) : rM_isascii (.str s) [] H Q := ⟨s, rfl, rfl, True.intro, h⟩
theorem mp_s {s : Str} (h : Q (.bl (Txt.isprintable s)) H) : rM_isprintable (.str s) [] H Q := ⟨s, rfl, rfl, True.intro, h⟩
theorem mdg_s {s : Str} (h : Q (.bl (Txt.isdigit s)) H) : rM_isdigit (.str s) [] H Q := ⟨s, rfl, rfl, True.intro, h⟩
theorem mf_s {s u : Str} (h : Q (.int (Txt.find s u)) H) : rM_find (.str s) [.str u] H Q := ⟨s, u, rfl, rfl, h⟩
theorem al_b {p : Addr} {bs : List Bool} (hs : SqL K H p (bs.map V.bl)) (h : Q (.bl (bs.all id)) H) : rAll K [.ref p] H Q := ⟨p, bs, rfl, hs, h⟩
/-! statements -/
variable {n b k : St → Hp → Prop} {rt : VK} {p q s w : TS} {g : TG} {D : Ends}
theorem s_seq (h : p ⟨q ⟨n, rt, b, k⟩, rt, b, k⟩ σ H) : tSeq p q ⟨n, rt, b, k⟩ σ H := h
theorem s_asg (h : te σ H fun x H1 => g x σ H1 n) : tAsg te g ⟨n, rt, b, k⟩ σ H := h
theorem s_gn {i : Nat} {N : St → Hp → Prop} (h : N (σ.set i (some v)) H) : gName i v σ H N := h
theorem s_if (h : c σ H fun d H1 => if d = true then p D σ H1 else q D σ H1) : tIfS c p q D σ H := h
theorem s_ret (h : te σ H rt) : tRet te ⟨n, rt, b, k⟩ σ H := h
theorem s_retN (h : rt .non H) : tRetN ⟨n, rt, b, k⟩ σ H := h
theorem s_next (h : n σ H) : tNext ⟨n, rt, b, k⟩ σ H := h
theorem s_brk (h : b σ H) : tBreak ⟨n, rt, b, k⟩ σ H := h
theorem s_cont (h : k σ H) : tCont ⟨n, rt, b, k⟩ σ H := h
theorem s_drop (h : te σ H fun _ H1 => n σ H1) : tDrop te ⟨n, rt, b, k⟩ σ H := h
theorem s_par {i j : Nat} (h : tr σ H fun vs H1 => ∃ v w, vs = [v, w] ∧ n ((σ.set i (some v)).set j (some w)) H1) : tPar i j tr ⟨n, rt, b, k⟩ σ H := h
theorem s_par3 {i j l : Nat} (h : tr σ H fun vs H1 => ∃ u v w, vs = [u, v, w] ∧ n (((σ.set i (some u)).set j (some v)).set l (some w)) H1) : tPar3 i j l tr ⟨n, rt, b, k⟩ σ H := h
theorem x_gsub {to ti : TE} {t : TSet} {N : St → Hp → Prop} (h : to σ H fun o H1 => ti σ H1 fun i H2 => t o i v H2 fun H3 => N σ H3) : gSub to ti t v σ H N := h
theorem st_L {p : Addr} {xs : List V} {i : Int} {N : Hp → Prop} (hp : H p = some (.lst xs)) (h0 : 0 ≤ i) (h1 : i < (xs.length : Int)) (h : N (upd H p (.lst (xs.set i.toNat v)))) : rSetL (.ref p) (.int i) v H N := by
  refine ⟨p, xs, i, i.toNat, rfl, rfl, hp, ?_, h⟩
  unfold ixN
  rw [if_pos h0]
  first | rw [if_pos h1] | simp [h1]
theorem pop_L {p : Addr} {x : V} {xs : List V} (hp : H p = some (.lst (x :: xs))) (h : Q x (upd H p (.lst xs))) : rPOP (.ref p) [.int 0] H Q := by
  refine ⟨p, x :: xs, 0, 0, x, rfl, rfl, hp, by decide, by decide, ?_, rfl, h⟩
  simp [seqIndex?]
theorem w_while {c : TT} {tb : TS} (W : Nat → St → Hp → Prop) (m0 : Nat) (h0 : W m0 σ H) (hs : ∀ m σ H, W m σ H → c σ H fun d H1 => if d = true then ∃ N : St → Hp → Prop, (∀ σ' H', N σ' H' → ∃ m', m' < m ∧ W m' σ' H') ∧ tb ⟨N, rt, n, N⟩ σ H1 else n σ H1) : tWhile c tb ⟨n, rt, b, k⟩ σ H :=
  ⟨W, ⟨m0, h0⟩, hs⟩
/-! loops -/
def LoopW (J : It) (g : TG) (tb : TS) (n : St → Hp → Prop) (rt : VK) (σ : St) (H : Hp) : Prop := ∃ W : Nat → Nat → St → Hp → Prop, (∃ m, W 0 m σ H) ∧ ∀ i m σ H, W i m σ H →
  (J.stop i H ∧ n σ H) ∨ (J.go i H ∧ ∃ N : St → Hp → Prop, (∀ σ' H', N σ' H' → ∃ m', m' < m ∧ W (i + 1) m' σ' H') ∧ ∀ x H', J.yld i H x H' → g x σ H' fun σ2 H2 => tb ⟨N, rt, n, N⟩ σ2 H2)
def ForR1 (g : TG) (tb : TS) (n : St → Hp → Prop) (rt : VK) (σ : St) (vs : List V) (H : Hp) : Prop := ∃ j : Int, vs = [.int j] ∧ -(2 ^ 62) ≤ j ∧ j < 2 ^ 62 ∧ LoopW (Itr 0 j.toNat) g tb n rt σ H
def ForR2 (g : TG) (tb : TS) (n : St → Hp → Prop) (rt : VK) (σ : St) (vs : List V) (H : Hp) : Prop := ∃ i j : Int, vs = [.int i, .int j] ∧ (-(2 ^ 62) ≤ i ∧ i < 2 ^ 62 ∧ -(2 ^ 62) ≤ j ∧ j < 2 ^ 62) ∧ LoopW (Itr i (j - i).toNat) g tb n rt σ H
def ForL (K : PySem.W.Frag) (g : TG) (tb : TS) (n : St → Hp → Prop) (rt : VK) (σ : St) (x : V) (H : Hp) : Prop := ∃ a, x = .ref a ∧ (∃ xs, SqL K H a xs) ∧ LoopW (Itl K a) g tb n rt σ H
def ForT (K : PySem.W.Frag) (g : TG) (tb : TS) (n : St → Hp → Prop) (rt : VK) (σ : St) (x : V) (H : Hp) : Prop := ∃ a, x = .ref a ∧ (∃ xs, SqT K H a xs) ∧ LoopW (Itt K a) g tb n rt σ H
def ForS (g : TG) (tb : TS) (n : St → Hp → Prop) (rt : VK) (σ : St) (x : V) (H : Hp) : Prop := ∃ z, x = .str z ∧ LoopW (Its z) g tb n rt σ H
theorem f_r1 (h : tr σ H fun vs H1 => ForR1 g p n rt σ vs H1) : tFor (iRng1 tr) g p ⟨n, rt, b, k⟩ σ H := h
theorem f_r2 (h : tr σ H fun vs H1 => ForR2 g p n rt σ vs H1) : tFor (iRng2 tr) g p ⟨n, rt, b, k⟩ σ H := h
theorem f_l (h : te σ H fun x H1 => ForL K g p n rt σ x H1) : tFor (iList K te) g p ⟨n, rt, b, k⟩ σ H := h
theorem f_t (h : te σ H fun x H1 => ForT K g p n rt σ x H1) : tFor (iTup K te) g p ⟨n, rt, b, k⟩ σ H := h
theorem f_s (h : te σ H fun x H1 => ForS g p n rt σ x H1) : tFor (iStr te) g p ⟨n, rt, b, k⟩ σ H := h
theorem loopR {lo : Int} {m : Nat} (Pv : Nat → St → Hp → Prop) (h0 : Pv 0 σ H) (hs : ∀ i σ H, i < m → Pv i σ H → g (.int (lo + i)) σ H fun σ2 H2 => p ⟨Pv (i + 1), rt, n, Pv (i + 1)⟩ σ2 H2) (hd : ∀ σ H, Pv m σ H → n σ H) : LoopW (Itr lo m) g p n rt σ H := for_range (D := ⟨n, rt, n, n⟩) Pv h0 hs hd
theorem loopL {a : Addr} {xs : List V} (Pv : Nat → St → Hp → Prop) (h0 : Pv 0 σ H) (hl : ∀ i σ H, i ≤ xs.length → Pv i σ H → SqL K H a xs) (hs : ∀ i x σ H, xs[i]? = some x → Pv i σ H → g x σ H fun σ2 H2 => p ⟨Pv (i + 1), rt, n, Pv (i + 1)⟩ σ2 H2) (hd : ∀ σ H, Pv xs.length σ H → n σ H) : LoopW (Itl K a) g p n rt σ H := for_list (D := ⟨n, rt, n, n⟩) Pv h0 hl hs hd
theorem loopT {a : Addr} {xs : List V} (Pv : Nat → St → Hp → Prop) (h0 : Pv 0 σ H) (hl : ∀ i σ H, i ≤ xs.length → Pv i σ H → SqT K H a xs) (hs : ∀ i x σ H, xs[i]? = some x → Pv i σ H → g x σ H fun σ2 H2 => p ⟨Pv (i + 1), rt, n, Pv (i + 1)⟩ σ2 H2) (hd : ∀ σ H, Pv xs.length σ H → n σ H) : LoopW (Itt K a) g p n rt σ H := for_tup (D := ⟨n, rt, n, n⟩) Pv h0 hl hs hd
theorem for1_mk {j : Int} (hj : -(2 ^ 62) ≤ j) (hj2 : j < 2 ^ 62) (Pv : Nat → St → Hp → Prop) (h0 : Pv 0 σ H) (hs : ∀ (i : Nat) σ H, i < j.toNat → Pv i σ H → g (.int (i : Int)) σ H fun σ2 H2 => p ⟨Pv (i + 1), rt, n, Pv (i + 1)⟩ σ2 H2) (hd : ∀ σ H, Pv j.toNat σ H → n σ H) : ForR1 g p n rt σ [.int j] H :=
  ⟨j, rfl, hj, hj2, loopR Pv h0 (fun i σ H hi hp => by rw [Int.zero_add]; exact hs i σ H hi hp) hd⟩
theorem for2_mk {lo j : Int} (hj : -(2 ^ 62) ≤ lo ∧ lo < 2 ^ 62 ∧ -(2 ^ 62) ≤ j ∧ j < 2 ^ 62) (Pv : Nat → St → Hp → Prop) (h0 : Pv 0 σ H) (hs : ∀ (i : Nat) σ H, i < (j - lo).toNat → Pv i σ H → g (.int (lo + (i : Int))) σ H fun σ2 H2 => p ⟨Pv (i + 1), rt, n, Pv (i + 1)⟩ σ2 H2) (hd : ∀ σ H, Pv (j - lo).toNat σ H → n σ H) : ForR2 g p n rt σ [.int lo, .int j] H :=
  ⟨lo, j, rfl, hj, loopR Pv h0 hs hd⟩
theorem forL_mk {a : Addr} {xs : List V} (hx : SqL K H a xs) (Pv : Nat → St → Hp → Prop) (h0 : Pv 0 σ H) (hl : ∀ i σ H, i ≤ xs.length → Pv i σ H → SqL K H a xs) (hs : ∀ i x σ H, xs[i]? = some x → Pv i σ H → g x σ H fun σ2 H2 => p ⟨Pv (i + 1), rt, n, Pv (i + 1)⟩ σ2 H2) (hd : ∀ σ H, Pv xs.length σ H → n σ H) : ForL K g p n rt σ (.ref a) H := ⟨a, rfl, ⟨xs, hx⟩, loopL Pv h0 hl hs hd⟩
theorem forT_mk {a : Addr} {xs : List V} (hx : SqT K H a xs) (Pv : Nat → St → Hp → Prop) (h0 : Pv 0 σ H) (hl : ∀ i σ H, i ≤ xs.length → Pv i σ H → SqT K H a xs) (hs : ∀ i x σ H, xs[i]? = some x → Pv i σ H → g x σ H fun σ2 H2 => p ⟨Pv (i + 1), rt, n, Pv (i + 1)⟩ σ2 H2) (hd : ∀ σ H, Pv xs.length σ H → n σ H) : ForT K g p n rt σ (.ref a) H := ⟨a, rfl, ⟨xs, hx⟩, loopT Pv h0 hl hs hd⟩
/-! comprehensions -/
def LcW (J : It) (g : TG) (tt : TT) (te : TE) (vs : List Nat) (σ : St) (Q : VK) (H1 : Hp) : Prop := ∀ D, H1 D = none → ∃ W : Nat → Nat → Hp → Prop, (∃ m, W 0 m (upd H1 D (.lst []))) ∧ ∀ i m H, W i m H →
  (J.stop i H ∧ Q (.ref D) H) ∨ (J.go i H ∧ ∃ Nx : Hp → Prop, (∀ H', Nx H' → ∃ m', m' < m ∧ W (i + 1) m' H') ∧ ∀ x H', J.yld i H x H' → g x (wipe σ vs) H' fun σ2 H2 => wipe σ2 vs = wipe σ vs ∧ tt σ2 H2 fun b H3 =>
    if b = true then te σ2 H3 fun y H4 => ∃ acc, H4 D = some (.lst acc) ∧ acc.length < sizeLine ∧ Nx (upd H4 D (.lst (acc ++ [y]))) else Nx H3)
def LcR1 (g : TG) (tt : TT) (te : TE) (ws : List Nat) (σ : St) (Q : VK) (vs : List V) (H : Hp) : Prop := ∃ j : Int, vs = [.int j] ∧ -(2 ^ 62) ≤ j ∧ j < 2 ^ 62 ∧ LcW (Itr 0 j.toNat) g tt te ws σ Q H
def LcR2 (g : TG) (tt : TT) (te : TE) (ws : List Nat) (σ : St) (Q : VK) (vs : List V) (H : Hp) : Prop := ∃ i j : Int, vs = [.int i, .int j] ∧ (-(2 ^ 62) ≤ i ∧ i < 2 ^ 62 ∧ -(2 ^ 62) ≤ j ∧ j < 2 ^ 62) ∧ LcW (Itr i (j - i).toNat) g tt te ws σ Q H
def LcL (K : PySem.W.Frag) (g : TG) (tt : TT) (te : TE) (ws : List Nat) (σ : St) (Q : VK) (x : V) (H : Hp) : Prop := ∃ a, x = .ref a ∧ (∃ xs, SqL K H a xs) ∧ LcW (Itl K a) g tt te ws σ Q H
def LcT (K : PySem.W.Frag) (g : TG) (tt : TT) (te : TE) (ws : List Nat) (σ : St) (Q : VK) (x : V) (H : Hp) : Prop := ∃ a, x = .ref a ∧ (∃ xs, SqT K H a xs) ∧ LcW (Itt K a) g tt te ws σ Q H
def LcS (g : TG) (tt : TT) (te : TE) (ws : List Nat) (σ : St) (Q : VK) (x : V) (H : Hp) : Prop := ∃ z, x = .str z ∧ LcW (Its z) g tt te ws σ Q H
variable {ws : List Nat}
theorem c_r1 (h : tr σ H fun vs H1 => LcR1 g t te ws σ Q vs H1) : tLc (iRng1 tr) g t te ws σ H Q := h
theorem c_r2 (h : tr σ H fun vs H1 => LcR2 g t te ws σ Q vs H1) : tLc (iRng2 tr) g t te ws σ H Q := h
theorem c_l (h : ta σ H fun x H1 => LcL K g t te ws σ Q x H1) : tLc (iList K ta) g t te ws σ H Q := h
theorem c_t (h : ta σ H fun x H1 => LcT K g t te ws σ Q x H1) : tLc (iTup K ta) g t te ws σ H Q := h
theorem c_s (h : ta σ H fun x H1 => LcS g t te ws σ Q x H1) : tLc (iStr ta) g t te ws σ H Q := h
theorem lcR1_mk {j : Int} (hj : -(2 ^ 62) ≤ j) (hj2 : j < 2 ^ 62) (Pv : Addr → Nat → Hp → Prop) (h0 : ∀ D, H D = none → Pv D 0 (upd H D (.lst [])))
    (hs : ∀ D (i : Nat) H', H D = none → i < j.toNat → Pv D i H' → g (.int (i : Int)) (wipe σ ws) H' fun σ2 H2 => wipe σ2 ws = wipe σ ws ∧ t σ2 H2 fun b H3 => if b = true then te σ2 H3 fun y H4 => ∃ acc, H4 D = some (.lst acc) ∧ acc.length < sizeLine ∧ Pv D (i + 1) (upd H4 D (.lst (acc ++ [y]))) else Pv D (i + 1) H3)
    (hd : ∀ D H', H D = none → Pv D j.toNat H' → Q (.ref D) H') : LcR1 g t te ws σ Q [.int j] H :=
  ⟨j, rfl, hj, hj2, fun D hD => lc_range (lo := 0) (n := j.toNat) (Pv D) (h0 D hD) (fun i H hi hp => by rw [Int.zero_add]; exact hs D i H hD hi hp) (fun H' hp => hd D H' hD hp)⟩
theorem lcR2_mk {lo j : Int} (hj : -(2 ^ 62) ≤ lo ∧ lo < 2 ^ 62 ∧ -(2 ^ 62) ≤ j ∧ j < 2 ^ 62) (Pv : Addr → Nat → Hp → Prop) (h0 : ∀ D, H D = none → Pv D 0 (upd H D (.lst [])))
    (hs : ∀ D (i : Nat) H', H D = none → i < (j - lo).toNat → Pv D i H' → g (.int (lo + (i : Int))) (wipe σ ws) H' fun σ2 H2 => wipe σ2 ws = wipe σ ws ∧ t σ2 H2 fun b H3 => if b = true then te σ2 H3 fun y H4 => ∃ acc, H4 D = some (.lst acc) ∧ acc.length < sizeLine ∧ Pv D (i + 1) (upd H4 D (.lst (acc ++ [y]))) else Pv D (i + 1) H3)
    (hd : ∀ D H', H D = none → Pv D (j - lo).toNat H' → Q (.ref D) H') : LcR2 g t te ws σ Q [.int lo, .int j] H :=
  ⟨lo, j, rfl, hj, fun D hD => lc_range (lo := lo) (n := (j - lo).toNat) (Pv D) (h0 D hD) (fun i H hi hp => hs D i H hD hi hp) (fun H' hp => hd D H' hD hp)⟩
theorem lcL_mk {a : Addr} {xs : List V} (hx : SqL K H a xs) (Pv : Addr → Nat → Hp → Prop) (h0 : ∀ D, H D = none → Pv D 0 (upd H D (.lst []))) (hl : ∀ D i H', H D = none → i ≤ xs.length → Pv D i H' → SqL K H' a xs)
    (hs : ∀ D i x H', H D = none → xs[i]? = some x → Pv D i H' → g x (wipe σ ws) H' fun σ2 H2 => wipe σ2 ws = wipe σ ws ∧ t σ2 H2 fun b H3 => if b = true then te σ2 H3 fun y H4 => ∃ acc, H4 D = some (.lst acc) ∧ acc.length < sizeLine ∧ Pv D (i + 1) (upd H4 D (.lst (acc ++ [y]))) else Pv D (i + 1) H3)
    (hd : ∀ D H', H D = none → Pv D xs.length H' → Q (.ref D) H') : LcL K g t te ws σ Q (.ref a) H :=
  ⟨a, rfl, ⟨xs, hx⟩, fun D hD => lc_list (xs := xs) (Pv D) (h0 D hD) (fun i H hi hp => hl D i H hD hi hp) (fun i x H hi hp => hs D i x H hD hi hp) (fun H' hp => hd D H' hD hp)⟩
theorem lcT_mk {a : Addr} {xs : List V} (hx : SqT K H a xs) (Pv : Addr → Nat → Hp → Prop) (h0 : ∀ D, H D = none → Pv D 0 (upd H D (.lst []))) (hl : ∀ D i H', H D = none → i ≤ xs.length → Pv D i H' → SqT K H' a xs)
    (hs : ∀ D i x H', H D = none → xs[i]? = some x → Pv D i H' → g x (wipe σ ws) H' fun σ2 H2 => wipe σ2 ws = wipe σ ws ∧ t σ2 H2 fun b H3 => if b = true then te σ2 H3 fun y H4 => ∃ acc, H4 D = some (.lst acc) ∧ acc.length < sizeLine ∧ Pv D (i + 1) (upd H4 D (.lst (acc ++ [y]))) else Pv D (i + 1) H3)
    (hd : ∀ D H', H D = none → Pv D xs.length H' → Q (.ref D) H') : LcT K g t te ws σ Q (.ref a) H :=
  ⟨a, rfl, ⟨xs, hx⟩, fun D hD => lc_tup (xs := xs) (Pv D) (h0 D hD) (fun i H hi hp => hl D i H hD hi hp) (fun i x H hi hp => hs D i x H hD hi hp) (fun H' hp => hd D H' hD hp)⟩
theorem s_cut (M : St → Hp → Prop) (h : p ⟨M, rt, b, k⟩ σ H) (hq : ∀ σ' H', M σ' H' → q ⟨n, rt, b, k⟩ σ' H') : Evl.tCut p q ⟨n, rt, b, k⟩ σ H := ⟨M, h, hq⟩
theorem s_p2 {P : V → V → Prop} (h : P x y) : ∃ v w, [x, y] = [v, w] ∧ P v w := ⟨x, y, rfl, h⟩
theorem s_p3 {P : V → V → V → Prop} (h : P x y z) : ∃ u v w, [x, y, z] = [u, v, w] ∧ P u v w := ⟨x, y, z, rfl, h⟩
theorem iteTd {p : Prop} [Decidable p] {A B : Prop} (h : p) (q : A) : if decide p = true then A else B := by
  rw [decide_eq_true h]
  exact iteT q
theorem iteFd {p : Prop} [Decidable p] {A B : Prop} (h : ¬ p) (q : B) : if decide p = true then A else B := by
  rw [decide_eq_false h]
  exact iteF q
theorem iteNt {A B : Prop} (q : B) : if (!true) = true then A else B := iteF q
theorem iteNf {A B : Prop} (q : A) : if (!false) = true then A else B := iteT q
theorem iteNd {p : Prop} [Decidable p] {A B : Prop} (h : p) (q : B) : if (!decide p) = true then A else B := by
  rw [decide_eq_true h]
  exact iteF q
theorem iteNdF {p : Prop} [Decidable p] {A B : Prop} (h : ¬ p) (q : A) : if (!decide p) = true then A else B := by
  rw [decide_eq_false h]
  exact iteT q
theorem ite2' {c : Bool} {A B : Prop} (h1 : c = true → A) (h2 : c = false → B) : if c = true then A else B := by
  cases c with
  | true => exact h1 rfl
  | false => exact h2 rfl
end
end My

set_option Elab.async false
set_option linter.all false
set_option maxRecDepth 100000
set_option maxHeartbeats 400000
/-! ### texts as lists of codes; heaps -/
namespace My
open PySem PySem.Spec PyProof.Rows L2
abbrev S (l : List Nat) : Str := SX.S l
theorem S_cps (l : List Nat) : (S l).cps.toList = l := rfl
theorem S_len (l : List Nat) : (S l).length = l.length := SX.S_len l
theorem S_eta (z : Str) : z = S z.cps.toList := by
  rcases z with ⟨⟨l⟩⟩
  rfl
theorem S_app (a b : List Nat) : S a ++ S b = S (a ++ b) := by
  show (⟨a.toArray ++ b.toArray⟩ : Str) = ⟨(a ++ b).toArray⟩
  simp
theorem S_inj {a b : List Nat} (h : S a = S b) : a = b := congrArg (fun z : Str => z.cps.toList) h
theorem S_eq (a b : List Nat) : decide (S a = S b) = decide (a = b) := by
  by_cases h : a = b
  · subst h; simp
  · have h2 : ¬ S a = S b := fun e => h (S_inj e)
    rw [decide_eq_false h, decide_eq_false h2]
theorem S_one (c : Nat) : (⟨#[c]⟩ : Str) = S [c] := rfl
/-! slices -/
theorem cut_from (l : List Nat) (a : Nat) : cutS (S l) (some (a : Int)) none = S (l.drop a) := by
  unfold cutS
  rw [S_len, HT.sIx_nat, HT.sIx_none, S_cps]
  apply congrArg S
  rcases Nat.le_total a l.length with h | h
  · rw [Nat.min_eq_left h]
    exact List.take_of_length_le (by rw [List.length_drop]; exact Nat.le_refl _)
  · rw [Nat.min_eq_right h, List.drop_eq_nil_of_le h]
    simp
theorem cut_to (l : List Nat) (b : Nat) : cutS (S l) none (some (b : Int)) = S (l.take b) := by
  unfold cutS
  rw [S_len, HT.sIx_nat, HT.sIx_none, S_cps]
  apply congrArg S
  rw [List.drop_zero, Nat.sub_zero]
  rcases Nat.le_total b l.length with h | h
  · rw [Nat.min_eq_left h]
  · rw [Nat.min_eq_right h, List.take_of_length_le (Nat.le_refl _), List.take_of_length_le h]
theorem cut_mid (l : List Nat) (a b : Nat) : cutS (S l) (some (a : Int)) (some (b : Int)) = S ((l.take b).drop a) := by
  unfold cutS
  rw [S_len, HT.sIx_nat, HT.sIx_nat, S_cps]
  apply congrArg S
  rw [List.drop_take]
  rcases Nat.le_total a l.length with h | h
  · rw [Nat.min_eq_left h]
    rcases Nat.le_total b l.length with h2 | h2
    · rw [Nat.min_eq_left h2]
    · rw [Nat.min_eq_right h2, List.take_of_length_le (by rw [List.length_drop]; exact Nat.le_refl _), List.take_of_length_le (by rw [List.length_drop]; omega)]
  · rw [Nat.min_eq_right h, List.drop_eq_nil_of_le h]
    simp
theorem cut_fromI (l : List Nat) {a : Int} (h : 0 ≤ a) : cutS (S l) (some a) none = S (l.drop a.toNat) := by
  have e := cut_from l a.toNat
  rwa [Int.toNat_of_nonneg h] at e
theorem cut_toI (l : List Nat) {a : Int} (h : 0 ≤ a) : cutS (S l) none (some a) = S (l.take a.toNat) := by
  have e := cut_to l a.toNat
  rwa [Int.toNat_of_nonneg h] at e
theorem cut_midI (l : List Nat) {a b : Int} (h : 0 ≤ a) (h2 : 0 ≤ b) : cutS (S l) (some a) (some b) = S ((l.take b.toNat).drop a.toNat) := by
  have e := cut_mid l a.toNat b.toNat
  rwa [Int.toNat_of_nonneg h, Int.toNat_of_nonneg h2] at e
theorem repS_S (l : List Nat) (k : Int) : repS (S l) k = S (List.replicate k.toNat l).flatten := rfl
theorem join_S (ys : List (List Nat)) : Txt.join (S []) (ys.map S) = S ys.flatten := by
  rw [SX.join_S]
  apply congrArg S
  induction ys with
  | nil => rfl
  | cons y ys ih =>
    cases ys with
    | nil => simp [TL.joinL]
    | cons z zs =>
      have e : TL.joinL [] (y :: z :: zs) = y ++ ([] ++ TL.joinL [] (z :: zs)) := by first | rfl | simp [TL.joinL]
      rw [e, ih]
      rfl
/-! an item at a place -/
theorem at_nat {α : Type} {xs : List α} {i : Int} {v : α} (h0 : 0 ≤ i) (h : xs[i.toNat]? = some v) : atI xs i = some v := by
  have e := atI_nat h
  rwa [Int.toNat_of_nonneg h0] at e
theorem at_in {α : Type} {xs : List α} {i : Int} (h0 : 0 ≤ i) (h : i < (xs.length : Int)) : atI xs i = some (xs[i.toNat]'(by omega)) := at_nat h0 (List.getElem?_eq_getElem (by omega))
/-! leaves over S -/
section
variable {K : PySem.W.Frag} {H : Hp} {Q : VK} {l m : List Nat} {a b : Int}
theorem big_line {n : Nat} (h : n ≤ 1000000) : n ≤ sizeLine := Nat.le_trans h (by decide)
theorem sl_to (ha : 0 ≤ a) (hl : l.length ≤ 1000000) (q : Q (.str (S (l.take a.toNat))) H) : rSL K (.str (S l)) none (some a) H Q := sl_S (by rw [S_len]; exact big_line hl) (by rw [cut_toI l ha]; exact q)
theorem sl_from (ha : 0 ≤ a) (hl : l.length ≤ 1000000) (q : Q (.str (S (l.drop a.toNat))) H) : rSL K (.str (S l)) (some a) none H Q := sl_S (by rw [S_len]; exact big_line hl) (by rw [cut_fromI l ha]; exact q)
theorem sl_mid (ha : 0 ≤ a) (hb : 0 ≤ b) (hl : l.length ≤ 1000000) (q : Q (.str (S ((l.take b.toNat).drop a.toNat))) H) : rSL K (.str (S l)) (some a) (some b) H Q := sl_S (by rw [S_len]; exact big_line hl) (by rw [cut_midI l ha hb]; exact q)
theorem a_SS (hl : l.length + m.length ≤ 1000000) (q : Q (.str (S (l ++ m))) H) : rADD K (.str (S l)) (.str (S m)) H Q := a_ss (by rw [S_len, S_len]; exact big_line hl) (by rw [S_app]; exact q)
theorem ln_S (hl : l.length ≤ 1000000) (q : Q (.int l.length) H) : rLEN K [.str (S l)] H Q := ln_s (by rw [S_len]; exact big_line hl) (by rw [S_len]; exact q)
theorem ix_SS (h0 : 0 ≤ a) (h1 : a < (l.length : Int)) (hl : l.length ≤ 1000000) (q : ∀ c, l[a.toNat]? = some c → Q (.str (S [c])) H) : rIX K (.str (S l)) (.int a) H Q :=
  ix_S (by rw [S_len]; exact big_line hl) (at_in h0 h1) (q _ (List.getElem?_eq_getElem (by omega)))
theorem e_SS (q : Q (.bl (decide (l = m))) H) : rEQ K (.str (S l)) (.str (S m)) H Q := e_ss (by rw [S_eq]; exact q)
theorem ne_SS (q : Q (.bl (!decide (l = m))) H) : rNE K (.str (S l)) (.str (S m)) H Q := ne_ss (by rw [S_eq]; exact q)
theorem m_SI (h1 : a < 2 ^ 40) (h0 : 0 ≤ a) (hl : l.length * a.toNat ≤ 1000000) (q : Q (.str (S (List.replicate a.toNat l).flatten)) H) : rMUL K (.str (S l)) (.int a) H Q := m_si (by omega) (by omega) (by rw [S_len]; exact big_line hl) q
theorem jn_0 {p : Addr} {ys : List (List Nat)} (hp : SqL K H p ((ys.map S).map V.str)) (hl : ys.flatten.length ≤ 1000000) (q : Q (.str (S ys.flatten)) H) : rJoin K (.str (S [])) [.ref p] H Q := by
  refine ⟨S [], p, ys.map S, rfl, rfl, .inl hp, ?_, by rw [join_S]; exact q⟩
  have e : ((ys.map S).map (·.length)).sum = ys.flatten.length := by
    rw [List.length_flatten, List.map_map]
    apply congrArg List.sum
    exact List.map_congr_left fun l _ => S_len l
  rw [e, S_len]
  exact Nat.le_trans (by simpa using hl) (by decide)
end
/-! printing ASCII -/
def isT (l : List Nat) : Bool := l.all fun c => decide (32 ≤ c) && decide (c ≤ 126)
theorem printable_lt {c : Nat} (h : c < 128) : Unicode.isPrintable c = (decide (32 ≤ c) && decide (c ≤ 126)) := by
  have h2 : ∀ c : _root_.Fin 128, Unicode.isPrintable c.val = (decide (32 ≤ c.val) && decide (c.val ≤ 126)) := by decide +kernel
  exact h2 ⟨c, h⟩
theorem digit_lt {c : Nat} (h : c < 128) : Unicode.isDigit c = (decide (48 ≤ c) && decide (c ≤ 57)) := by
  have h2 : ∀ c : _root_.Fin 128, Unicode.isDigit c.val = (decide (48 ≤ c.val) && decide (c.val ≤ 57)) := by decide +kernel
  exact h2 ⟨c, h⟩
theorem is_text_eq (l : List Nat) : (Txt.isascii (S l) && Txt.isprintable (S l)) = isT l := by
  unfold Txt.isascii Txt.isprintable isT
  rw [← Array.all_toList, ← Array.all_toList, S_cps]
  induction l with
  | nil => rfl
  | cons c l ih =>
    simp only [List.all_cons]
    rw [← ih]
    by_cases h : c < 128
    · rw [printable_lt h, decide_eq_true h]
      cases (decide (32 ≤ c) && decide (c ≤ 126)) <;> cases (l.all fun x => decide (x < 128)) <;> cases (l.all Unicode.isPrintable) <;> rfl
    · rw [decide_eq_false h]
      have h2 : (decide (32 ≤ c) && decide (c ≤ 126)) = false := by
        rw [decide_eq_false (show ¬ c ≤ 126 by omega), Bool.and_false]
      rw [h2]
      rfl
def isD (l : List Nat) : Bool := l.all fun c => decide (48 ≤ c) && decide (c ≤ 57)
theorem isT_mem {l : List Nat} (h : isT l = true) {c : Nat} (hc : c ∈ l) : 32 ≤ c ∧ c ≤ 126 := by
  have z := List.all_eq_true.mp h c hc
  rw [Bool.and_eq_true, decide_eq_true_eq, decide_eq_true_eq] at z
  exact z
theorem isT_of {l : List Nat} (h : ∀ c ∈ l, 32 ≤ c ∧ c ≤ 126) : isT l = true := List.all_eq_true.mpr fun c hc => by
  rw [Bool.and_eq_true, decide_eq_true_eq, decide_eq_true_eq]
  exact h c hc
theorem isT_app {a b : List Nat} : isT (a ++ b) = (isT a && isT b) := List.all_append
theorem isT_take {a : List Nat} (n : Nat) (h : isT a = true) : isT (a.take n) = true := isT_of fun _ hc => isT_mem h (List.mem_of_mem_take hc)
theorem isT_drop {a : List Nat} (n : Nat) (h : isT a = true) : isT (a.drop n) = true := isT_of fun _ hc => isT_mem h (List.mem_of_mem_drop hc)
theorem isdigit_eq {l : List Nat} (h : isT l = true) : Txt.isdigit (S l) = (decide (l ≠ []) && isD l) := by
  unfold Txt.isdigit isD
  rw [← Array.all_toList, S_cps, S_len]
  have e : l.all Unicode.isDigit = l.all fun c => decide (48 ≤ c) && decide (c ≤ 57) := by
    rw [Bool.eq_iff_iff, List.all_eq_true, List.all_eq_true]
    constructor
    · intro z c hc
      rw [← digit_lt (by have := isT_mem h hc; omega)]
      exact z c hc
    · intro z c hc
      rw [digit_lt (by have := isT_mem h hc; omega)]
      exact z c hc
  rw [e]
  cases l with
  | nil => rfl
  | cons c l => simp
/-! lists of texts, of numbers -/
def TxtAll (n : Nat) (xs : List V) : Prop := ∀ x ∈ xs, ∃ l : List Nat, l.length ≤ n ∧ isT l = true ∧ x = V.str (S l)
theorem txt_nil {n : Nat} : TxtAll n [] := fun _ h => by cases h
theorem txt_cons {n : Nat} {l : List Nat} {xs : List V} (h1 : l.length ≤ n) (h2 : isT l = true) (h : TxtAll n xs) : TxtAll n (.str (S l) :: xs) := fun x hx => by
  rcases List.mem_cons.mp hx with rfl | hx
  · exact ⟨l, h1, h2, rfl⟩
  · exact h x hx
theorem txt_app {n : Nat} {xs ys : List V} (h1 : TxtAll n xs) (h2 : TxtAll n ys) : TxtAll n (xs ++ ys) := fun x hx => (List.mem_append.mp hx).elim (h1 x) (h2 x)
theorem ix_txt {K : PySem.W.Frag} {H : Hp} {Q : VK} {p : Addr} {zs : List V} {n : Nat} {i : Int} (hp : SqL K H p zs) (ha : TxtAll n zs) (h0 : 0 ≤ i) (h1 : i < (zs.length : Int)) (q : ∀ l : List Nat, l.length ≤ n → isT l = true → Q (.str (S l)) H) : rIX K (.ref p) (.int i) H Q := by
  refine ix_L hp (at_in h0 h1) ?_
  have hi : i.toNat < zs.length := by omega
  obtain ⟨l, a, b, e⟩ := ha zs[i.toNat] (List.getElem_mem hi)
  rw [e]
  exact q l a b
def IntAll (n : Nat) (xs : List V) : Prop := ∀ x ∈ xs, ∃ z : Nat, z < n ∧ x = V.int z
theorem int_nil {n : Nat} : IntAll n [] := fun _ h => by cases h
theorem int_cons {n : Nat} {i : Int} {xs : List V} (h0 : 0 ≤ i) (h1 : i < (n : Int)) (h : IntAll n xs) : IntAll n (.int i :: xs) := fun x hx => by
  rcases List.mem_cons.mp hx with rfl | hx
  · exact ⟨i.toNat, by omega, by rw [Int.toNat_of_nonneg h0]⟩
  · exact h x hx
theorem ix_int {K : PySem.W.Frag} {H : Hp} {Q : VK} {p : Addr} {zs : List V} {n : Nat} {i : Int} (hp : SqL K H p zs) (ha : IntAll n zs) (h0 : 0 ≤ i) (h1 : i < (zs.length : Int)) (q : ∀ z : Nat, z < n → Q (.int z) H) : rIX K (.ref p) (.int i) H Q := by
  refine ix_L hp (at_in h0 h1) ?_
  have hi : i.toNat < zs.length := by omega
  obtain ⟨z, a, e⟩ := ha zs[i.toNat] (List.getElem_mem hi)
  rw [e]
  exact q z a
def IntP (F : Nat → Prop) (xs : List V) : Prop := ∀ x ∈ xs, ∃ z : Nat, F z ∧ x = V.int z
theorem intp_nil {F : Nat → Prop} : IntP F [] := fun _ h => by cases h
theorem intp_cons {F : Nat → Prop} {i : Int} {xs : List V} (h0 : 0 ≤ i) (h1 : F i.toNat) (h : IntP F xs) : IntP F (.int i :: xs) := fun x hx => by
  rcases List.mem_cons.mp hx with rfl | hx
  · exact ⟨i.toNat, h1, by rw [Int.toNat_of_nonneg h0]⟩
  · exact h x hx
theorem ix_intp {K : PySem.W.Frag} {H : Hp} {Q : VK} {p : Addr} {zs : List V} {F : Nat → Prop} {i : Int} (hp : SqL K H p zs) (ha : IntP F zs) (h0 : 0 ≤ i) (h1 : i < (zs.length : Int)) (q : ∀ z : Nat, F z → Q (.int z) H) : rIX K (.ref p) (.int i) H Q := by
  refine ix_L hp (at_in h0 h1) ?_
  have hi : i.toNat < zs.length := by omega
  obtain ⟨z, a, e⟩ := ha zs[i.toNat] (List.getElem_mem hi)
  rw [e]
  exact q z a
/-! heaps -/
theorem same_upd {H : Hp} {p : Addr} {o : HO} (h : H p = none) : Same H (upd H p o) := fun b x e => by
  rw [upd_ne (ne_of_none e h)]
  exact e
theorem same_mut {R H : Hp} {p : Addr} {o : HO} (e : Same R H) (h : R p = none) : Same R (upd H p o) := fun a u ha => by
  rw [upd_ne (ne_of_none ha h)]
  exact e a u ha
theorem same_sqt {K : PySem.W.Frag} {H H' : Hp} {a : Addr} {xs : List V} (e : Same H H') (h : SqT K H a xs) : SqT K H' a xs := by
  rcases h with (h | ⟨o, h⟩) | h
  · exact .inl (.inl (e _ _ h))
  · exact .inl (.inr ⟨o, e _ _ h⟩)
  · exact .inr h
theorem same_new {R H : Hp} {p : Addr} {o : HO} (e : Same R H) (h : H p = none) : Same R (upd H p o) := e.trans (same_upd h)
theorem lst_of {K : PySem.W.Frag} {H : Hp} {a : Addr} {xs : List V} (h : H a = some (.lst xs)) : SqL K H a xs := .inl (.inl h)
theorem tup_of {K : PySem.W.Frag} {H : Hp} {a : Addr} {xs : List V} (h : H a = some (.tup xs)) : SqT K H a xs := .inl (.inl h)
mutual
theorem dp_mono {K : PySem.W.Frag} {H H' : Hp} (e : Same H H') : ∀ (d : PyData) (v : V), Dp K H v d → Dp K H' v d
  | _, _, .non => .non
  | _, _, .bl b => .bl b
  | _, _, .int i => .int i
  | _, _, .str x => .str x
  | .list ds, _, .lst h a => .lst (e.seq h) (dpAll_mono e ds _ a)
  | .tuple ds, _, .tup h a => .tup (same_sqt e h) (dpAll_mono e ds _ a)
theorem dpAll_mono {K : PySem.W.Frag} {H H' : Hp} (e : Same H H') : ∀ (ds : List PyData) (vs : List V), DpAll K H vs ds → DpAll K H' vs ds
  | _, _, .nil => .nil
  | d :: ds, v :: vs, .cons h t => .cons (dp_mono e d v h) (dpAll_mono e ds vs t)
end
theorem ne_new {H : Hp} {a p : Addr} {o : HO} (h : H a = some o) (hp : H p = none) : p ≠ a := fun e => by
  subst e
  rw [hp] at h
  cases h
end My

set_option Elab.async false
set_option linter.all false
set_option maxRecDepth 100000
set_option maxHeartbeats 400000
/-! ### data; isinstance; a comprehension over a range with a step -/
namespace My
open PySem PySem.Spec PyProof.Rows L2
def tyName : PyData → String
  | .none => "NoneType"
  | .bool _ => "bool"
  | .int _ => "int"
  | .str _ => "str"
  | .list _ => "list"
  | .tuple _ => "tuple"
  | .dict _ => "dict"
theorem tyx_l {K : PySem.W.Frag} {H : Hp} {a : Addr} {xs : List V} (h : SqL K H a xs) : TyX K H (.ref a) (.type "list") := by
  rcases h with (h | ⟨o, h⟩) | h
  · exact .base (.lst h)
  · exact .base (.frz h)
  · obtain ⟨o, its, n, h1, h2, _⟩ := h
    exact .kList h1 h2
theorem tyx_t {K : PySem.W.Frag} {H : Hp} {a : Addr} {xs : List V} (h : SqT K H a xs) : TyX K H (.ref a) (.type "tuple") := by
  rcases h with (h | ⟨o, h⟩) | h
  · exact .base (.tup h)
  · exact .fTuple h
  · obtain ⟨o, its, n, h1, h2, _⟩ := h
    exact .kTuple h1 h2
theorem tyx_d {K : PySem.W.Frag} {H : Hp} {x : V} {d : PyData} (h : Dp K H x d) : TyX K H x (.type (tyName d)) := by
  cases h with
  | non => exact .base .non
  | bl b => exact .base (.bl b)
  | int i => exact .base (.int i)
  | str z => exact .base (.str z)
  | lst h _ => exact tyx_l h
  | tup h _ => exact tyx_t h
section
variable {K : PySem.W.Frag} {H : Hp} {Q : VK} {x : V} {d : PyData}
theorem isi_d {n : String} {b : Bool} (h : Dp K H x d) (hb : kitB (tyName d) n = some b) (q : Q (.bl b) H) : rISI K [x, .ty n] H Q :=
  .inl ⟨x, .ty n, _, _, b, rfl, .ty n, tyx_d h, kit_ty hb, q⟩
theorem isi_d2 {n m : String} {p : Addr} {b : Bool} (h : Dp K H x d) (hp : H p = some (.tup [.ty n, .ty m])) {b1 b2 : Bool} (h1 : kitB (tyName d) n = some b1) (h2 : kitB (tyName d) m = some b2) (hb : b = (b1 || b2)) (q : Q (.bl b) H) : rISI K [x, .ref p] H Q := by
  refine .inr ⟨x, p, _, _, [.type n, .type m], b, rfl, hp, .cons (.ty n) (.cons (.ty m) .nil), tyx_d h, ?_, q⟩
  subst hb
  refine kitAny_cons (kit_ty h1) (fun e => ?_) (fun e => by rw [e]; rfl)
  rw [e, Bool.false_or]
  exact kitAny_cons (kit_ty h2) (fun e => by rw [e]; exact kitAny_nil) (fun e => e)
/-- the six answers of isinstance and is None -/
def kindsB (d : PyData) : List Bool := match d with
  | .none => [false, false, false, false, false, true]
  | .bool _ => [true, true, false, false, false, false]
  | .int _ => [false, true, false, false, false, false]
  | .str _ => [false, false, true, false, false, false]
  | .list _ => [false, false, false, false, true, false]
  | .tuple _ => [false, false, false, true, false, false]
  | .dict _ => []
/-- a list of booleans as data -/
theorem dp_bools {p : Addr} (bs : List Bool) (h : SqL K H p (bs.map V.bl)) : Dp K H (.ref p) (.list (bs.map PyData.bool)) := by
  refine .lst h ?_
  induction bs with
  | nil => exact .nil
  | cons b bs ih =>
    have ih' : DpAll K H (bs.map V.bl) (bs.map PyData.bool) := by
      clear ih h
      induction bs with
      | nil => exact .nil
      | cons c cs ih => exact .cons (.bl c) ih
    exact .cons (.bl b) ih'
theorem eqv_same {d : PyData} (h : SeqAt.shaped d = true) : PyData.eqv d d = true := by
  unfold SeqAt.shaped at h
  rw [Bool.and_eq_true] at h
  exact SeqAt.eqv_refl d h.1
theorem dpAll_get : ∀ {vs : List V} {ds : List PyData}, DpAll K H vs ds → ∀ {i : Nat} (hi : i < ds.length), ∃ v, vs[i]? = some v ∧ Dp K H v ds[i]
  | _, _, .nil, i, hi => absurd hi (Nat.not_lt_zero _)
  | _, _, .cons a b, 0, hi => ⟨_, rfl, a⟩
  | _, _, .cons a b, i + 1, hi => dpAll_get b (Nat.lt_of_succ_lt_succ hi)
theorem dpAll_len : ∀ {vs : List V} {ds : List PyData}, DpAll K H vs ds → vs.length = ds.length
  | _, _, .nil => rfl
  | _, _, .cons a b => by rw [List.length_cons, List.length_cons, dpAll_len b]
end
/-- a comprehension over range(a, b, c) -/
theorem lc_rangeC {lo c : Int} {n : Nat} {g : TG} {tt : TT} {te : TE} {vs : List Nat} {σ : L2.St} {H1 : Hp} {D : Addr} {Qd : Hp → Prop} (Pv : Nat → Hp → Prop) (h0 : Pv 0 (upd H1 D (.lst [])))
    (hs : ∀ i H, i < n → Pv i H → g (.int (lo + (i : Nat) * c)) (wipe σ vs) H fun σ2 H2 => wipe σ2 vs = wipe σ vs ∧ tt σ2 H2 fun b H3 =>
      if b = true then te σ2 H3 fun y H4 => ∃ acc, H4 D = some (.lst acc) ∧ acc.length < sizeLine ∧ Pv (i + 1) (upd H4 D (.lst (acc ++ [y]))) else Pv (i + 1) H3) (hd : ∀ H, Pv n H → Qd H) :
    ∃ W : Nat → Nat → Hp → Prop, (∃ m, W 0 m (upd H1 D (.lst []))) ∧ ∀ i m H, W i m H →
      ((Itc lo c n).stop i H ∧ Qd H) ∨ ((Itc lo c n).go i H ∧ ∃ Nx : Hp → Prop, (∀ H', Nx H' → ∃ m', m' < m ∧ W (i + 1) m' H') ∧ ∀ x H', (Itc lo c n).yld i H x H' → g x (wipe σ vs) H' fun σ2 H2 => wipe σ2 vs = wipe σ vs ∧ tt σ2 H2 fun b H3 =>
        if b = true then te σ2 H3 fun y H4 => ∃ acc, H4 D = some (.lst acc) ∧ acc.length < sizeLine ∧ Nx (upd H4 D (.lst (acc ++ [y]))) else Nx H3) := by
  refine ⟨fun i m H => m = n - i ∧ i ≤ n ∧ Pv i H, ⟨n, by simp, Nat.zero_le _, h0⟩, ?_⟩
  rintro i m H ⟨rfl, hi, p⟩
  by_cases hlt : i < n
  · refine .inr ⟨hlt, Pv (i + 1), fun H' p' => ⟨n - (i + 1), by omega, rfl, hlt, p'⟩, fun x H' y => ?_⟩
    obtain ⟨rfl, rfl⟩ := y
    exact hs i _ hlt p
  · have e : i = n := by omega
    subst e
    exact .inl ⟨Nat.le_refl _, hd H p⟩
theorem rsize_pos {m f : Nat} (h1 : 1 ≤ m) (hf : 1 ≤ f) : Builtin.Range.rangeSize 0 (m : Int) (f : Int) = (((m - 1) / f + 1 : Nat) : Int) := by
  unfold Builtin.Range.rangeSize
  rw [if_pos (by omega), if_pos (by omega), Int.sub_zero, show (m : Int) - 1 = ((m - 1 : Nat) : Int) by omega]
  rfl
theorem small_pos {m f : Nat} (h1 : 1 ≤ m) (h2 : m ≤ 1000000) (hf : 1 ≤ f) (hf2 : f ≤ 1000000) : Builtin.Range.small 0 (m : Int) (f : Int) = true := by
  unfold Builtin.Range.small
  rw [rsize_pos h1 hf]
  simp only [Builtin.Range.rangeFitsLong, Bool.and_eq_true, Bool.or_eq_true, decide_eq_true_eq, beq_iff_eq, show ((f : Int) > 0) by omega, if_true]
  have h3 := Nat.div_le_self (m - 1) f
  generalize (m - 1) / f = q at *
  omega
/-! one sign in figures -/
theorem lit_figs : ("0123456789" : Str) = S [48, 49, 50, 51, 52, 53, 54, 55, 56, 57] := rfl
theorem find_fig (c : Nat) : Txt.find (S [48, 49, 50, 51, 52, 53, 54, 55, 56, 57]) (S [c]) = if 48 ≤ c ∧ c ≤ 57 then ((c - 48 : Nat) : Int) else -1 := by
  by_cases h : 48 ≤ c ∧ c ≤ 57
  · rw [if_pos h]
    have h2 : ∀ k : _root_.Fin 10, Txt.find (S [48, 49, 50, 51, 52, 53, 54, 55, 56, 57]) (S [48 + k.val]) = (k.val : Int) := by decide +kernel
    have e := h2 ⟨c - 48, by omega⟩
    rw [show 48 + (c - 48) = c by omega] at e
    exact e
  · rw [if_neg h]
    have e := SX.in_one [48, 49, 50, 51, 52, 53, 54, 55, 56, 57] c
    have h3 : decide (c ∈ [48, 49, 50, 51, 52, 53, 54, 55, 56, 57]) = false := decide_eq_false fun hm => h (by
      simp only [List.mem_cons, List.not_mem_nil, or_false] at hm
      omega)
    rw [h3, Bool.not_eq_false'] at e
    unfold Txt.find
    rw [List.isEmpty_iff] at e
    show (match Builtin.Str.occurrences (SX.S _) (SX.S [c]) 0 (SX.S _).length 1 with | i :: _ => (i : Int) | [] => -1) = -1
    rw [e]
/-! figures of a number -/
def figs : Nat → Nat → List Nat
  | 0, _ => []
  | w + 1, n => figs w (n / 10) ++ [48 + n % 10]
theorem figs_len : ∀ w n, (figs w n).length = w
  | 0, _ => rfl
  | w + 1, n => by rw [figs, List.length_append, figs_len w]; rfl
theorem digitChar_nat {n : Nat} (h : n < 10) : n.digitChar.toNat = 48 + n := by
  have h2 : ∀ k : _root_.Fin 10, k.val.digitChar.toNat = 48 + k.val := by decide
  exact h2 ⟨n, h⟩
theorem toDigits_len10 {w n : Nat} (h : n < 10 ^ w) (hw : 0 < w) : (Nat.toDigits 10 n).length ≤ w := by
  have h1 := (Nat.length_repr_le_iff (n := n) (k := w) hw).mpr h
  rwa [← String.length_toList, Nat.toList_repr] at h1
def pad (w n : Nat) : List Nat := List.replicate (w - (Nat.toDigits 10 n).length) 48 ++ (Nat.toDigits 10 n).map Char.toNat
theorem zpad_S (w n : Nat) : zpad w (n : Int) = S (pad w n) := rfl
theorem figs_zero : ∀ w, figs w 0 = List.replicate w 48
  | 0 => rfl
  | w + 1 => by
    rw [figs, Nat.zero_div, Nat.zero_mod, figs_zero w, List.replicate_succ']
theorem pad_figs : ∀ (w n : Nat), n < 10 ^ w → 0 < w → pad w n = figs w n
  | 0, _, _, h => absurd h (Nat.lt_irrefl _)
  | w + 1, n, h, _ => by
    by_cases hn : n < 10
    · unfold pad
      rw [Nat.toDigits_of_lt_base hn]
      show List.replicate (w + 1 - 1) 48 ++ [n.digitChar.toNat] = figs (w + 1) n
      rw [figs, digitChar_nat hn, Nat.div_eq_of_lt hn, Nat.mod_eq_of_lt hn, figs_zero]
      rfl
    · have hw : 0 < w := by
        rcases Nat.eq_zero_or_pos w with e | e
        · subst e
          simp at h
          omega
        · exact e
      have h2 : n / 10 < 10 ^ w := by
        rw [Nat.div_lt_iff_lt_mul (by decide)]
        rwa [Nat.pow_succ] at h
      have ih := pad_figs w (n / 10) h2 hw
      have hl := toDigits_len10 h2 hw
      rw [figs, ← ih]
      unfold pad
      rw [Nat.toDigits_of_base_le (by decide) (by omega), List.length_append, List.map_append, ← List.append_assoc]
      show List.replicate (w + 1 - ((Nat.toDigits 10 (n / 10)).length + 1)) 48 ++ _ ++ [(n % 10).digitChar.toNat] = _
      rw [digitChar_nat (Nat.mod_lt _ (by decide)), show w + 1 - ((Nat.toDigits 10 (n / 10)).length + 1) = w - (Nat.toDigits 10 (n / 10)).length by omega]
theorem figs_isD : ∀ w n, isD (figs w n) = true
  | 0, _ => rfl
  | w + 1, n => by
    show List.all (figs (w + 1) n) _ = true
    rw [figs, List.all_append]
    have e : (figs w (n / 10)).all (fun c => decide (48 ≤ c) && decide (c ≤ 57)) = true := figs_isD w (n / 10)
    rw [e, Bool.true_and]
    have := Nat.mod_lt n (show 10 > 0 by decide)
    simp
    omega
theorem digitsVal_snoc (a : List Nat) (c : Nat) : NumText.digitsVal (a ++ [c]) = NumText.digitsVal a * 10 + (c - 48) := by
  unfold NumText.digitsVal
  rw [List.foldl_append]
  rfl
theorem digitsVal_figs : ∀ w n, n < 10 ^ w → NumText.digitsVal (figs w n) = n
  | 0, n, h => by
    have : n = 0 := by simpa using h
    subst this
    rfl
  | w + 1, n, h => by
    rw [figs, digitsVal_snoc, digitsVal_figs w (n / 10) (by rw [Nat.div_lt_iff_lt_mul (by decide)]; rwa [Nat.pow_succ] at h)]
    omega
theorem isD_isT {l : List Nat} (h : isD l = true) : isT l = true := isT_of fun c hc => by
  have z := List.all_eq_true.mp h c hc
  rw [Bool.and_eq_true, decide_eq_true_eq, decide_eq_true_eq] at z
  omega
end My

set_option Elab.async false
set_option linter.all false
set_option maxRecDepth 100000
set_option maxHeartbeats 400000
/-! ### the greatest, with one for none; noughts ahead -/
namespace My
open PySem PySem.Spec PyProof.Rows L2
theorem maxOf_int (x : Int) : ∀ xs : List Int, PySem.W.maxOf x xs ∈ x :: xs ∧ ∀ y ∈ x :: xs, y ≤ PySem.W.maxOf x xs := by
  intro xs
  unfold PySem.W.maxOf
  induction xs generalizing x with
  | nil => exact ⟨List.mem_singleton.mpr rfl, fun y hy => by rw [List.mem_singleton.mp hy]; exact Int.le_refl _⟩
  | cons z zs ih =>
    rw [List.foldl_cons]
    have e : PySem.W.DatumOrd.lt x z = decide (x < z) := rfl
    rw [e]
    by_cases h : x < z
    · rw [if_pos (decide_eq_true h)]
      obtain ⟨h1, h2⟩ := ih z
      refine ⟨List.mem_cons_of_mem _ h1, fun y hy => ?_⟩
      rcases List.mem_cons.mp hy with rfl | hy
      · exact Int.le_trans (Int.le_of_lt h) (h2 z (List.mem_cons_self ..))
      · exact h2 y hy
    · rw [if_neg (by rw [decide_eq_false h]; decide)]
      obtain ⟨h1, h2⟩ := ih x
      refine ⟨?_, fun y hy => ?_⟩
      · rcases List.mem_cons.mp h1 with h1 | h1
        · rw [h1]; exact List.mem_cons_self ..
        · exact List.mem_cons_of_mem _ (List.mem_cons_of_mem _ h1)
      · rcases List.mem_cons.mp hy with rfl | hy
        · exact h2 _ (List.mem_cons_self ..)
        · rcases List.mem_cons.mp hy with rfl | hy
          · exact Int.le_trans (by omega) (h2 x (List.mem_cons_self ..))
          · exact h2 y (List.mem_cons_of_mem _ hy)
section
variable {X : Cx}
def rMAXD (K : PySem.W.Frag) : List V → List V → Hp → VK → Prop := fun xs zs H Q => ∃ (a : Addr) (ns : List Int) (d : V), xs = [.ref a] ∧ zs = [d] ∧ SqL K H a (ns.map V.int) ∧ (ns = [] → Q d H) ∧ ∀ m, m ∈ ns → (∀ y, y ∈ ns → y ≤ m) → Q (.int m) H
theorem call_MAXD (hc : X.calm = true) (hu : X.A.units + 64 < cLine) : CallRK X (.builtin "max") ["default"] (rMAXD X.K) := by
  intro pins s σ H xs zs us ws Q I rx rz h
  obtain ⟨a, ns, d, rfl, rfl, hs, q0, q⟩ := h
  obtain ⟨its, rv, hl, _⟩ := I.list hs
  rw [Vals.ref1 rx]
  cases rz with
  | cons r1 r2 =>
    cases r2
    rename_i w
    have hi : IntsAre its ns := rv.ints
    refine PySem.W.max_list_datum_default (xs := ns) (I.ok.hd hc) hl.isList ?_ ?_ (fun e h' tk hk => ⟨d, H, I.kept hk, r1, q0 e⟩) fun y ys i v h' tk e hv hh hk => ?_
    · rw [List.toList_toArray]
      exact PySem.W.HoldAll.of_ints hi
    · show X.A.units + 1 + 0 < cLine
      omega
    · subst e
      obtain ⟨m1, m2⟩ := maxOf_int y ys
      obtain ⟨as, hr⟩ := hh
      have hr' : Reads h' v (.int (PySem.W.maxOf y ys)) as := hr
      cases hr' with
      | int _ t => exact ⟨.int _, H, I.kept hk, ⟨t, rfl⟩, q _ m1 m2⟩
end
end My
namespace PySem
open Builtin Builtin.Str Builtin.Int
theorem my_gives_rjust3 (x : Str) (i : Int) (c : Nat) (t u v : Tok) (hr : (decide (i < -(2 ^ 63 : Int)) || decide (i ≥ 2 ^ 63)) = false) (hl : tooLong i.toNat = false) :
    Gives («str.rjust» ⟨[.str x t, .int i u, .str ⟨#[c]⟩ v], []⟩) (if i ≤ x.length then .val (.str x t) else .str (padded x (i.toNat - x.length) 0 c)) := by
  show Gives (do
             let width ← asSsize s!"str.{"rjust"}" (.int i u)
             if width ≤ x.length then (do rule s!"str.{"rjust"}.long-enough"; ret (.str x t)) else
             if tooLong width.toNat = true then unsupported s!"str.{"rjust"}:memory" else retStr (padded x (width.toNat - x.length) 0 c)) _
  rw [asSsize_int _ _ _ hr]
  show Gives (if i ≤ x.length then (do rule s!"str.{"rjust"}.long-enough"; ret (.str x t)) else if tooLong i.toNat = true then unsupported s!"str.{"rjust"}:memory" else retStr (padded x (i.toNat - x.length) 0 c)) _
  rw [hl]
  by_cases h : i ≤ (x.length : Int)
  · rw [if_pos h, if_pos h]; exact .rule (.of_eq rfl)
  · rw [if_neg h, if_neg h]; exact .of_eq rfl
def myRjust (x : Str) (i : Int) (c : Nat) : Str := if i ≤ x.length then x else padded x (i.toNat - x.length) 0 c
theorem my_rjust3 {prog : Program} {w : World} {A : Around} {E : Value → Shared → Prop} {s : Shared} {Q : Value → Shared → Prop} {x : Str} {t : Tok} {i : Int} {c : Nat} {u v : Tok} (hp : PadOk i = true) (hq : ∀ t' k, Q (.str (myRjust x i c) t') { s with toks := k }) : wpAny (model prog w) A (call (.builtin "str.rjust") [.str x t, .int i u, .str ⟨#[c]⟩ v]) Q E s :=
  call_gives F.slot_str_rjust (typeIs_str _ _ _) F.entry_str_rjust (F.args_str_rjust_3 _ _ _) (my_gives_rjust3 x i c t u v (PadOk.parts hp).1 (PadOk.parts hp).2) (post_val_or_made (fits_padL c (PadOk.parts hp).2) hq)
end PySem
namespace My
open PySem PySem.Spec PyProof.Rows L2
section
variable {X : Cx}
def rM_rjust2 : V → List V → Hp → VK → Prop := fun x xs H Q => ∃ (a : Str) (i : Int) (c : Nat), x = .str a ∧ xs = [.int i, .str ⟨#[c]⟩] ∧ PadOk i = true ∧ Q (.str (myRjust a i c)) H
theorem mt_RJUST2 : MtR X "str.rjust" rM_rjust2 := by
  intro pins s σ H x xs v us Q I rx rs h
  obtain ⟨a, i, c, rfl, rfl, hc, h⟩ := h
  obtain ⟨t, rfl⟩ := rx
  cases rs with
  | cons r1 rs =>
    cases rs with
    | cons r2 rs =>
      cases rs
      obtain ⟨u, rfl⟩ := r1
      obtain ⟨z, rfl⟩ := r2
      exact my_rjust3 hc fun t' k => ⟨.str (myRjust a i c), H, I.tok k, ⟨t', rfl⟩, h⟩
end
theorem rj_S (l : List Nat) (w c : Nat) : myRjust (S l) (w : Int) c = S (List.replicate (w - l.length) c ++ l) := by
  unfold myRjust
  rw [S_len]
  by_cases h : (w : Int) ≤ l.length
  · rw [if_pos h, show w - l.length = 0 by omega]
    rfl
  · rw [if_neg h]
    unfold Builtin.Str.padded
    show (⟨_⟩ : Str) = ⟨_⟩
    congr 1
    apply Array.ext'
    simp
theorem numL_eq (n : Nat) : TL.numL n = (Nat.toDigits 10 n).map Char.toNat := by
  unfold TL.numL
  simp
theorem rj_num (n : Nat) : myRjust (Str.ofString (toString (n : Int))) 6 48 = S (pad 6 n) := by
  rw [SX.num_S]
  have e := rj_S (TL.numL n) 6 48
  rw [numL_eq, List.length_map] at e
  rw [numL_eq]
  exact e
end My

set_option Elab.async false
set_option linter.all false
set_option maxRecDepth 100000
set_option maxHeartbeats 400000
/-! ### unpacking, slices of lists and tuples, appending -/
namespace My
open PySem PySem.Spec PyProof.Rows L2
section
variable {K : PySem.W.Frag} {H : Hp} {Q : VK} {σ : L2.St} {v x : V} {r : List V}
theorem x_gc {t : TG} {u : TGs} {N : L2.St → Hp → Prop} (h : t v σ H fun σ' H' => u r σ' H' N) : gCons t u (v :: r) σ H N := ⟨v, r, rfl, h⟩
theorem x_gz {N : L2.St → Hp → Prop} (h : N σ H) : gNil [] σ H N := ⟨rfl, h⟩
theorem gt_T {a : Addr} {xs : List V} {n : Nat} {t : TGs} {N : L2.St → Hp → Prop} (hs : SqT K H a xs) (hl : xs.length = n) (h : t xs σ H N) : gTup K n t (.ref a) σ H N := ⟨a, xs, rfl, hs, hl, h⟩
theorem x_ckw {rr : List V → List V → Hp → VK → Prop} {ta tk : TA} (h : ta σ H fun vs H1 => tk σ H1 fun zs H2 => rr vs zs H2 Q) : tCKw rr ta tk σ H Q := h
theorem ap_L {p : Addr} {xs : List V} {y : V} (hp : H p = some (.lst xs)) (hl : xs.length ≤ 1000000) (h : Q .non (upd H p (.lst (xs ++ [y])))) : rAppend (.ref p) [y] H Q := ⟨p, xs, y, rfl, rfl, hp, Nat.lt_of_le_of_lt hl (by decide), h⟩
theorem cutV_mid (xs : List V) (a b : Nat) : cutV xs (some (a : Int)) (some (b : Int)) = (xs.take b).drop a := by
  unfold cutV
  rw [HT.sIx_nat, HT.sIx_nat, List.drop_take]
  rcases Nat.le_total a xs.length with h | h
  · rw [Nat.min_eq_left h]
    rcases Nat.le_total b xs.length with h2 | h2
    · rw [Nat.min_eq_left h2]
    · rw [Nat.min_eq_right h2, List.take_of_length_le (by rw [List.length_drop]; exact Nat.le_refl _), List.take_of_length_le (by rw [List.length_drop]; omega)]
  · rw [Nat.min_eq_right h, List.drop_eq_nil_of_le h]
    simp
theorem cutV_from (xs : List V) (a : Nat) : cutV xs (some (a : Int)) none = xs.drop a := by
  unfold cutV
  rw [HT.sIx_nat, HT.sIx_none]
  rcases Nat.le_total a xs.length with h | h
  · rw [Nat.min_eq_left h]
    exact List.take_of_length_le (by rw [List.length_drop]; exact Nat.le_refl _)
  · rw [Nat.min_eq_right h, List.drop_eq_nil_of_le h]
    simp
theorem cutV_to (xs : List V) (b : Nat) : cutV xs none (some (b : Int)) = xs.take b := by
  unfold cutV
  rw [HT.sIx_nat, HT.sIx_none, List.drop_zero, Nat.sub_zero]
  rcases Nat.le_total b xs.length with h | h
  · rw [Nat.min_eq_left h]
  · rw [Nat.min_eq_right h, List.take_of_length_le (Nat.le_refl _), List.take_of_length_le h]
theorem sl_T {a : Addr} {xs : List V} {lo hi : Option Int} (hs : SqT K H a xs) (h : ∀ p H', Same H H' → SqT K H' p (cutV xs lo hi) → Q (.ref p) H') : rSL K (.ref a) lo hi H Q := by
  refine .inr (.inr ⟨a, xs, rfl, hs, fun e => ?_, fun _ p hp => h p _ (same_upd hp) (tup_of upd_same)⟩)
  refine h a H (Same.refl H) ?_
  have e2 : cutV xs lo hi = xs := by
    unfold cutV
    rw [e.1, e.2, List.drop_zero, Nat.sub_zero, List.take_of_length_le (Nat.le_refl _)]
  rw [e2]
  exact hs
theorem sl_any {l : List Nat} {lo hi : Option Int} (hl : l.length ≤ 1000000) (hT : isT l = true) (q : ∀ l', l'.length ≤ l.length → isT l' = true → Q (.str (S l')) H) : rSL K (.str (S l)) lo hi H Q := by
  refine sl_S (by rw [S_len]; exact big_line hl) ?_
  unfold cutS
  rw [S_cps]
  refine q _ ?_ (isT_take _ (isT_drop _ hT))
  rw [List.length_take, List.length_drop]
  omega
theorem mx_L {a : Addr} {ns : List Int} (hs : SqL K H a (ns.map V.int)) (h0 : 0 < ns.length) (q : ∀ m, m ∈ ns → (∀ y, y ∈ ns → y ≤ m) → Q (.int m) H) : rMax K [.ref a] H Q := ⟨a, ns, rfl, hs, h0, q⟩
theorem mxd_L {a : Addr} {ns : List Int} {d : V} (hs : SqL K H a (ns.map V.int)) (h0 : ns = [] → Q d H) (q : ∀ m, m ∈ ns → (∀ y, y ∈ ns → y ≤ m) → Q (.int m) H) : rMAXD K [.ref a] [d] H Q := ⟨a, ns, d, rfl, rfl, hs, h0, q⟩
theorem tu_L {a : Addr} {xs : List V} (hs : SqL K H a xs) (h : ∀ l, H l = none → Q (.ref l) (upd H l (.tup xs))) : rTUPLE K [.ref a] H Q := ⟨a, xs, rfl, .inl ⟨hs, h⟩⟩
end
end My

set_option Elab.async false
set_option linter.all false
set_option maxRecDepth 100000
set_option maxHeartbeats 400000
/-! ### small letters; the least of a list -/
namespace My
open PySem PySem.Spec PyProof.Rows L2
def rM_lower : V → List V → Hp → VK → Prop := fun x xs H Q => ∃ a, x = .str a ∧ xs = [] ∧ a.length ≤ 5592405 ∧ Q (.str (Txt.lower a)) H
theorem lo1_T {c : Nat} (h0 : 32 ≤ c) (h1 : c ≤ 126) : 32 ≤ lo1 c ∧ lo1 c ≤ 126 := by
  have h2 : ∀ c : _root_.Fin 127, 32 ≤ c.val → 32 ≤ lo1 c.val ∧ lo1 c.val ≤ 126 := by decide +kernel
  exact h2 ⟨c, by omega⟩ h0
theorem lw_S {H : Hp} {Q : VK} {l : List Nat} (hl : l.length ≤ 1000000) (hT : isT l = true) (q : ∀ l' : List Nat, l'.length = l.length → isT l' = true → Q (.str (S l')) H) : rM_lower (.str (S l)) [] H Q := by
  refine ⟨S l, rfl, rfl, by rw [S_len]; omega, ?_⟩
  have e : Txt.lower (S l) = S (l.map lo1) := SX.lower_S (List.all_eq_true.mpr fun c hc => decide_eq_true (by have := isT_mem hT hc; omega))
  rw [e]
  refine q _ (List.length_map ..) (isT_of fun c hc => ?_)
  obtain ⟨d, hd, rfl⟩ := List.mem_map.mp hc
  have := isT_mem hT hd
  exact lo1_T this.1 this.2
theorem lcS_mk {H : Hp} {Q : VK} {σ : L2.St} {g : TG} {t : TT} {te : TE} {ws : List Nat} {l : List Nat} (Pv : Addr → Nat → Hp → Prop) (h0 : ∀ D, H D = none → Pv D 0 (upd H D (.lst [])))
    (hs : ∀ D i c H', H D = none → l[i]? = some c → Pv D i H' → g (.str (S [c])) (wipe σ ws) H' fun σ2 H2 => wipe σ2 ws = wipe σ ws ∧ t σ2 H2 fun b H3 => if b = true then te σ2 H3 fun y H4 => ∃ acc, H4 D = some (.lst acc) ∧ acc.length < sizeLine ∧ Pv D (i + 1) (upd H4 D (.lst (acc ++ [y]))) else Pv D (i + 1) H3)
    (hd : ∀ D H', H D = none → Pv D l.length H' → Q (.ref D) H') : LcS g t te ws σ Q (.str (S l)) H := by
  refine ⟨S l, rfl, fun D hD => ⟨fun i m H' => m = l.length - i ∧ i ≤ l.length ∧ Pv D i H', ⟨l.length, by simp, Nat.zero_le _, h0 D hD⟩, ?_⟩⟩
  rintro i m H' ⟨rfl, hi, p⟩
  have hsz : (S l).cps.size = l.length := rfl
  by_cases hlt : i < l.length
  · refine .inr ⟨by show i < (S l).cps.size; rw [hsz]; exact hlt, Pv D (i + 1), fun H2 p' => ⟨l.length - (i + 1), by omega, rfl, hlt, p'⟩, fun x H2 y => ?_⟩
    obtain ⟨rfl, c, hc, rfl⟩ := y
    refine hs D i c _ hD ?_ p
    have e : (S l).cps = l.toArray := rfl
    rw [e] at hc
    simpa using hc
  · have e : i = l.length := by omega
    subst e
    exact .inl ⟨by show (S l).cps.size ≤ l.length; rw [hsz]; exact Nat.le_refl _, hd D H' hD p⟩
section
variable {K : PySem.W.Frag} {H : Hp} {Q : VK}
theorem mn_L {a : Addr} {ns : List Int} (hs : SqL K H a (ns.map V.int)) (h0 : 0 < ns.length) (q : ∀ m, m ∈ ns → (∀ y, y ∈ ns → m ≤ y) → Q (.int m) H) : rMin K [.ref a] H Q := ⟨a, ns, rfl, hs, h0, q⟩
end
end My

set_option Elab.async false
set_option linter.all false
set_option maxRecDepth 100000
set_option maxHeartbeats 1000000
/-! ### raised and caught; tokens; texts exchanged in texts -/
namespace My
open PySem PySem.Spec PyProof.Rows L2
/-! #### raise, try -/
/-- an error of a class without fields leaves -/
def tRaise (c : Value) (E : XK) : TS := fun _ _ H => E c none H
/-- inside a try -/
def tRaiseW (c : Value) (W : WX) : TS := fun _ σ H => W c none σ H
def tTry (K : PySem.W.Frag) (Wout : WX) (l : List (Value × (Addr → Value → Option Addr → TS))) (tb : WX → TS) : TS := fun D σ H => tb (wMany K Wout D l) D σ H
def W0 : WX := fun _ _ _ _ => False
section
variable {X : Cx} {C : Addr}
theorem ps_raiseE {x m : Str} {j : Nat} {p p2 pos pos2 : Pos} {bmB : List Value} {B newId initId : String} {E : XK} (hc : X.calm = true) (tk : Takes X (fun cls d _ H => E cls d H)) (F : ExcBaseFacts B newId initId bmB) (q : PySem.W.excIn X.K C bmB newId = true) (gC : X.mg x = some (.ref C)) (kC : PySem.W.keepIn X.K (.ref C) = true) (r : Raises X (.ref C)) (hg : Gl X x)
    (hdb : (x == ("__debug__" : Str)) = false := by decide) : PS X (.Raise (some (.Call (.Name x p) [.Constant (.str m) j p2] [] pos)) none pos2) (tRaise (.ref C) E) := ps_raise hc tk (pmk_own F q gC kC r hg hdb)
theorem ps_tryM {body : List Stmt} {h₀ : ExceptHandler} {hds : List ExceptHandler} {l : List (Value × (Addr → Value → Option Addr → TS))} {pos : Pos} {tb : WX → TS} {Wout : WX} (hs : X.stack = X.env :: X.outer) (hf : X.env.frame = some X.env.locals) (tk : Takes X Wout)
    (hb : ∀ (W : WX) (pn : List (Addr × Obj)) (xe : Value → Shared → Prop), Takes (X.tr pn xe) W → PassesOwn (model X.prog X.w) X.A X.env xe → PSs (X.tr pn xe) body (tb W))
    (hh : HdsOk X (h₀ :: hds) l) : PS X (.Try body (h₀ :: hds) [] [] pos) (tTry X.K Wout l tb) := ps_try_many hs hf tk hb hh
/-- what a callee lets out, the def lets out -/
theorem passT {E : XK} (tk : Takes X (fun cls d _ H => E cls d H)) : Passes (L2.CX X.prog X.w) X E := fun pins σ H s e s' I c => passAt tk σ pins H s e s' I c
end
/-! #### tokens: a def that is run where a text has been written -/
structure FnT (P : Program) (w : World) (K : PySem.W.Frag) (mg : Str → Option Value) (base : Heap) (CX : CXT) (k : Nat) (f : Addr) (fd : FuncData) (ps : List Str) (sp : Sp) : Prop where
  len : ∀ vs H Q E, sp vs H Q E → vs.length = ps.length
  run : ∀ (A : Around) (outer : List Env) (s : Shared) (H : Hp) (args : Args) (us : List Value) (vs : List V) (Q : VK) (E : XK), 1 ≤ s.toks → Room k A → Env0 P w K mg base A outer s H → BindsTo s fd args (ps.zip us) → Vals vs us → sp vs H Q E →
    codeAny (model P w) A (.call (.ref f) args) (CR CX outer P w H s Q E) s
theorem FnT.mono {P : Program} {w : World} {K : PySem.W.Frag} {mg : Str → Option Value} {base : Heap} {CX : CXT} {j k : Nat} {f : Addr} {fd : FuncData} {ps : List Str} {sp : Sp} (F : FnT P w K mg base CX j f fd ps sp) (h : j ≤ k) :
    FnT P w K mg base CX k f fd ps sp := ⟨F.len, fun A outer s H args us vs Q E h0 hr => F.run A outer s H args us vs Q E h0 (hr.mono h)⟩
theorem fnT_of {CX : CXT} {P : Program} {w : World} {K : PySem.W.Frag} {mg : Str → Option Value} {base : Heap} {k : Nat} {f : Addr} {name qual : Str} {params : Arguments} {body : List Stmt} {scope : Scope} {dV kV doc pm cdv ct oc : Value} {an od : Option Addr}
    {osl : Array (Option Value)} {N ps : List Str} {sp : Sp} (lk : K.lookup f = some ⟨oc, od, .func (PySem.W.fnOf name qual params body scope dV kV doc pm an cdv ct), osl⟩) (hcd : PySem.W.codeIn K cdv qual = true) (S : FnScope N ps scope)
    (len : ∀ vs H Q E, sp vs H Q E → vs.length = ps.length)
    (hbody : ∀ (A : Around) (outer : List Env) (s : Shared) (H : Hp) (vs : List V) (Q : VK) (E : XK), Room k (A.deeper (envOfC qual scope s.heap.objs.size f cdv)) → sp vs H Q E →
      ∃ t, PSsT (cxOf CX P w K mg base N qual scope f cdv A outer s H E) body t ∧ t { nx := fun _ H' => Q .non H', rt := Q } (start N vs) H) :
    FnT P w K mg base CX (k + 1) f (PySem.W.fnOf name qual params body scope dV kV doc pm an cdv ct) ps sp := by
  refine ⟨len, fun A outer s H args us vs Q E h0 hr e0 hb r hsp => ?_⟩
  have hl := len _ _ _ _ hsp
  have KX : K.In s.heap := e0.mod.kin.keeps fun b o e => (e0.bs b o e).1
  have lim : s.heap.NoLimit := e0.mod.nolimit.keeps fun b o e => (e0.bs b o e).1
  have hkind : ∀ y ∈ ps.zip us, scope.names.lookup y.1 = some .local ∨ (scope.names.lookup y.1 = some .cell ∧ ((cellsFrom (s.heap.objs.size + 1) scope.names []).lookup y.1).isSome = true) := fun ⟨n, v⟩ hy => by
    rcases S.par n (List.of_mem_zip hy).1 with q | q
    · exact .inl q
    · exact .inr ⟨q, PySem.W.cellsFrom_some _ _ _ (.inl q)⟩
  refine codeAny_call_function hr.depth (KX _ _ lk) rfl S.co S.gen rfl (PySem.W.codeRec_of KX hcd) (hb _ _ _ _ ?_)
  refine wpAny_with_toks h0 (wpAny_newFunctionEnv_cells S.kind hkind fun env he s1 x => ?_)
  intro h1
  subst he
  refine ⟨lim.keeps x.toInCall.keep, codeAny_func ?_⟩
  obtain ⟨t, ht, hq⟩ := hbody A outer s H vs Q E (hr.deeper _) hsp
  have I : Inv (cxOf CX P w K mg base N qual scope f cdv A outer s H E) [] (start N vs) H s1 := inv_start S hr.hd e0 hl r x
  refine wpAny_mono (ht [] s1 (start N vs) H _ h1 I hq) (fun fl s' hs => ?_) fun e s' hs => hs
  have fin : ∀ {σ' : L2.St} {H' : Hp} {v : V} {u : Value}, Inv (cxOf CX P w K mg base N qual scope f cdv A outer s H E) [] σ' H' s' → RelV v u → Q v H' → CE outer P w H s Q u s' :=
    fun {σ' H' v u} J rv q => ⟨v, H', J.os, J.bare, J.base, J.hok, rv, q⟩
  cases fl with
  | ret u =>
    obtain ⟨v, σ', H', J, rv, q⟩ := hs
    exact fin J rv q
  | next =>
    obtain ⟨σ', H', J, q⟩ := hs
    exact fin (v := V.non) (u := Value.none) J rfl q
  | brk =>
    obtain ⟨_, _, _, q⟩ := hs
    exact False.elim q
  | cont =>
    obtain ⟨_, _, _, q⟩ := hs
    exact False.elim q
theorem Fun.okT {P : Program} {w : World} {K : PySem.W.Frag} {mg : Str → Option Value} {base : Heap} {x qual : Str} {st : Stmt} {f : Addr} {fd : FuncData} {N ps : List Str} {k : Nat} {sp : Sp} (F : L2.Fun K x qual st f fd) (S : FnScope N ps (defScope st)) (len : ∀ vs H Q E, sp vs H Q E → vs.length = ps.length)
    (hbody : ∀ (cdv : Value) (A : Around) (outer : List Env) (s : Shared) (H : Hp) (vs : List V) (Q : VK) (E : XK), Room k (A.deeper (envOfC qual (defScope st) s.heap.objs.size f cdv)) → sp vs H Q E →
      ∃ t, PSsT (cxOf CX0 P w K mg base N qual (defScope st) f cdv A outer s H E) (defBody st) t ∧ t { nx := fun _ H' => Q .non H', rt := Q } (start N vs) H) : FnT P w K mg base CX0 (k + 1) f fd ps sp := by
  obtain ⟨oc, od, kV, doc, pm, an, cdv, ct, osl, rfl, lk, hcd⟩ := F.ex
  exact fnT_of lk hcd S len fun A outer s H vs Q E hr hsp => hbody cdv A outer s H vs Q E hr hsp
section
variable {X : Cx} {CX : CXT} {k : Nat} {f : Addr} {fd : FuncData} {ps : List Str} {sp : Sp} {E : XK} {x m : Str} {p pos apos : Pos} {e o : Expr} {es : List Expr} {ta to te tb : TE} {t : TA} {st : Stmt} {rest : List Stmt} {u v : TS}
theorem PET.of (h : PE X e te) : PET X e te := fun pins s σ H Q _ I q => h.run pins s σ H Q I q
theorem PAT.of (h : PA X es t) : PAT X es t := fun pos pins s σ H Q _ I q => h.run pos pins s σ H Q I q
theorem run_fnT {pins : List (Addr × Obj)} {σ : L2.St} {H : Hp} {s : Shared} {Q : VK} {us : List Value} {vs : List V} (F : FnT X.prog X.w X.K X.mg X.base CX k f fd ps sp) (h0 : 1 ≤ s.toks) (hr : Room k X.A) (hb : Binds X.K fd ps []) (hx : Passes CX X E)
    (I : Inv X pins σ H s) (r : Vals vs us) (h : sp vs H Q E) : wpAny (model X.prog X.w) X.A (call (.ref f) us) (EP X pins σ Q) X.xe s := by
  have hl : us.length = ps.length := by rw [← r.length]; exact F.len _ _ _ _ h
  have b := hb s us I.kIn (by rw [List.append_nil]; exact hl)
  rw [List.append_nil] at b
  refine wpAny_call (codeAny_mono (F.run X.A X.stack s H ⟨us, []⟩ us vs Q E h0 hr I.env0 b r h) fun r s' hq => ?_)
  cases r with
  | error e => exact hx pins σ H s e s' I hq
  | ok fl =>
    cases fl with
    | ret u => exact I.after hq
    | next => exact False.elim hq
    | brk => exact False.elim hq
    | cont => exact False.elim hq
theorem pe_callT (F : FnT X.prog X.w X.K X.mg X.base CX k f fd ps sp) (hr : Room k X.A) (hg : Gl X x) (hm : X.mg x = some (.ref f)) (hk : PySem.W.keepIn X.K (.ref f) = true) (hb : Binds X.K fd ps []) (hx : Passes CX X E)
    (ha : PA X (e :: es) t) (hdb : (x == ("__debug__" : Str)) = false := by decide) (he : starEach (e :: es) X.env = (false, eval e X.env) :: starEach es X.env := by rfl) (hpl : (backTo pos (starEach es X.env)).any (·.1) = false := by rfl) :
    PET X (.Call (.Name x p) (e :: es) [] pos) (tCall sp [] E t) := by
  intro pins s σ H Q h0 I h
  refine wpAny_Call_Name_kw (ld_glob I hg hm ?_ hdb)
  refine PySem.W.callWith_K (h₀ := X.base) I.ok.mod.kin hk (wpAny_mono (wpAny_toks_of h0 (ha.run pos pins s σ H _ I h)) (fun us s1 ⟨h1, vs, H1, I1, r, q⟩ => ⟨I1.kIn, ?_⟩) fun _ _ z => z.2) he hpl
  have q' : sp vs H1 Q E := by
    have e : vs ++ [] = vs := List.append_nil vs
    have q2 : sp (vs ++ []) H1 Q E := q
    rw [e] at q2
    exact q2
  exact run_fnT F h1 hr hb hx I1 r q'
/-- a written text on the left -/
theorem pe_opK {c : Str} {j : Nat} {cp : Pos} {op : Operator} {r : R2} {b : Expr} (ho : OpR X (binaryOp op) r) (hb : PET X b tb) : PE X (.BinOp (.Constant (.str c) j cp) op b pos) (tOp r (tC (.str c)) tb) := by
  refine ⟨fun pins s σ H Q I h => ?_⟩
  refine wpAny_BinOp (Calls.Constant_str ?_)
  refine thn (hb pins { s with toks := s.toks + 1 } σ H _ (Nat.le_add_left _ _) (I.tok _) h) fun u s2 ⟨y, H2, I2, ry, q⟩ => ?_
  exact ho pins s2 σ H2 (.str c) y _ u Q I2 ⟨_, rfl⟩ ry q
theorem pet_op {op : Operator} {r : R2} {a b : Expr} (ho : OpR X (binaryOp op) r) (ha : PET X a ta) (hb : PE X b tb) : PET X (.BinOp a op b pos) (tOp r ta tb) := by
  intro pins s σ H Q h0 I h
  refine wpAny_BinOp (thn (ha pins s σ H _ h0 I h) fun v s1 ⟨x, H1, I1, r1, q1⟩ => ?_)
  refine thn (hb.run pins s1 σ H1 _ I1 q1) fun u s2 ⟨y, H2, I2, r2, q2⟩ => ?_
  exact ho pins s2 σ H2 x y v u Q I2 r1 r2 q2
theorem pst_ret (he : PET X e te) : PST X (.Return (some e) pos) (tRet te) := by
  intro pins s σ H D h0 I h
  exact wpAny_Return_some (thn (he pins s σ H _ h0 I h) fun v s1 ⟨x, H1, I1, r1, q1⟩ => ⟨x, σ, H1, I1, r1, q1⟩)
theorem psst_one (h : PST X st u) : PSsT X [st] u := by
  intro pins s σ H D h0 I q
  refine wpAny_execs_cons (thn (h pins s σ H D h0 I q) fun f s1 q1 => ?_)
  cases f with
  | next =>
    obtain ⟨σ', H', I', q2⟩ := q1
    exact wpAny_execs_nil ⟨σ', H', I', q2⟩
  | ret v => exact q1
  | brk => exact q1
  | cont => exact q1
/-- o.replace('y', 'z') -/
def tRepl (y z : Str) (to : TE) : TE := fun σ H Q => to σ H fun x H1 => ∃ a : Str, x = .str a ∧ a.length + (a.length + 1) * z.length ≤ 16777216 ∧ Q (.str (Txt.replace a y z)) H1
theorem pet_repl {y z : Str} {j0 j1 : Nat} {c0 c1 apos : Pos} (ho : PET X o to) (hyz : (y == z) = false)
    (hst : starEach [.Constant (.str y) j0 c0, .Constant (.str z) j1 c1] X.env = [(false, eval (.Constant (.str y) j0 c0) X.env), (false, eval (.Constant (.str z) j1 c1) X.env)] := by rfl)
    (hbase : attributeBase o "replace" X.env (eval o X.env) = eval o X.env := by rfl) (hline : (apos.endLine == pos.line) = true := by rfl) :
    PET X (.Call (.Attribute o "replace" apos) [.Constant (.str y) j0 c0, .Constant (.str z) j1 c1] [] pos) (tRepl y z to) := by
  intro pins s σ H Q h0 I h
  refine PySem.Call_method2 hbase hst hline (wpAny_mono (wpAny_toks_of h0 (ho pins s σ H _ h0 I h)) (fun v s1 ⟨h1, x, H1, I1, r1, a, ea, hb, q⟩ => ?_) fun _ _ z => z.2)
  subst ea
  obtain ⟨tx, e⟩ := r1
  subst e
  refine ⟨"str", _, F.plainAttrs_str, F.slot_str_replace, F.type_str_replace, typeIs_str _ _ _, (fun _ e => nomatch e), Calls.callWith_builtin rfl (Calls.evalArgs_plain (Calls.spliced_cons (Calls.Constant_str ?_)))⟩
  refine Calls.spliced_cons (Calls.Constant_str (Calls.spliced_nil ?_))
  exact PySem.SC.replace (show s1.toks ≠ 0 by omega) (show s1.toks + 1 ≠ 0 by omega) (show s1.toks ≠ s1.toks + 1 by omega) hyz hb fun t' k => ⟨.str (Txt.replace a y z), H1, I1.tok k, ⟨t', rfl⟩, q⟩
end
section
variable {K : PySem.W.Frag} {σ : L2.St} {H : Hp} {Q : VK} {ta te : TE} {tr : TA} {D : Ends} {x : V}
theorem x_callS {sp : Sp} {E : L2.St → XK} (h : tr σ H fun vs H1 => sp vs H1 Q (E σ)) : tCallS sp E tr σ H Q := h
theorem s_try {Wout : WX} {l : List (Value × (Addr → Value → Option Addr → TS))} {tb : WX → TS} (h : tb (wMany K Wout D l) D σ H) : tTry K Wout l tb D σ H := h
theorem s_raise {c : Value} {E : XK} (h : E c none H) : tRaise c E D σ H := h
theorem x_repl {y z : Str} (h : ta σ H fun x H1 => ∃ a : Str, x = .str a ∧ a.length + (a.length + 1) * z.length ≤ 16777216 ∧ Q (.str (Txt.replace a y z)) H1) : tRepl y z ta σ H Q := h
theorem x_disp {trs : List (TE × TE)} (h : ∀ p, H p = none → tPairs trs σ (upd H p (.dK [])) fun ps H2 => H2 p = some (.dK []) ∧ ∃ kvs : List (Key × V), ps = kvs.map (fun kv => (kV kv.1, kv.2)) ∧ kvs.length ≤ 15 ∧ Q (.ref p) (upd H2 p (.dK (mergeK [] kvs)))) : tDisp trs σ H Q := h
theorem w_hit {K : PySem.W.Frag} {Wout : WX} {D : Ends} {c cls : Value} {d : Option Addr} {ts : Addr → Value → Option Addr → TS} {r : List (Value × (Addr → Value → Option Addr → TS))} (e : PySem.W.exmOne K cls c = some true) (h : ∀ a, H a = none → ts a cls d D σ H) : wMany K Wout D ((c, ts) :: r) cls d σ H := ⟨true, e, (fun _ => h), (fun z => nomatch z)⟩
theorem w_miss {K : PySem.W.Frag} {Wout : WX} {D : Ends} {c cls : Value} {d : Option Addr} {ts : Addr → Value → Option Addr → TS} {r : List (Value × (Addr → Value → Option Addr → TS))} (e : PySem.W.exmOne K cls c = some false) (h : wMany K Wout D r cls d σ H) : wMany K Wout D ((c, ts) :: r) cls d σ H := ⟨false, e, (fun z => nomatch z), fun _ => h⟩
theorem ty_D {d : PyData} (h : Dp K H x d) (q : Q (.ty (tyName d)) H) : rTyp K [x] H Q := by
  cases h with
  | non => exact ty_N q
  | bl b => exact ty_B q
  | int i => exact ty_I q
  | str z => exact ty_S q
  | lst h _ => exact ty_L h q
  | tup h _ => exact ty_T h q
end
/-- one sign exchanged for a text, sign by sign -/
theorem repl_S (l : List Nat) (c : Nat) (z : List Nat) : Txt.replace (S l) (S [c]) (S z) = S (l.flatMap fun d => if d = c then z else [d]) := by
  have e := StrLaws.replace_list (x := S l) (y := S [c]) (z := S z) (Nat.le_refl 1)
  have e2 : (Txt.replace (S l) (S [c]) (S z)).cps.toList = l.flatMap fun d => if d = c then z else [d] := by
    rw [e]
    show StrLaws.replL [c] z l = _
    clear e
    induction l with
    | nil => exact StrLaws.replL_nil
    | cons d l ih =>
      rw [List.flatMap_cons]
      by_cases h : d = c
      · subst h
        rw [StrLaws.replL_hit (by simp) rfl, if_pos rfl]
        show z ++ StrLaws.replL [d] z l = _
        rw [ih]
      · rw [StrLaws.replL_miss (by simpa using h), if_neg h, ih]
        rfl
  rw [S_eta (Txt.replace (S l) (S [c]) (S z)), e2]
end My

set_option Elab.async false
set_option linter.all false
set_option maxRecDepth 100000
set_option maxHeartbeats 1000000
/-! ### heaps that change at two places; lists of drawn things; data -/
namespace My
open PySem PySem.Spec PyProof.Rows L2
section
variable {K : PySem.W.Frag}
def Frm (s g : Addr) (H H' : Hp) : Prop := ∀ a o, a ≠ s → a ≠ g → H a = some o → H' a = some o
theorem Frm.refl {s g : Addr} (H : Hp) : Frm s g H H := fun _ _ _ _ h => h
theorem Frm.trans {s g : Addr} {H1 H2 H3 : Hp} (a : Frm s g H1 H2) (b : Frm s g H2 H3) : Frm s g H1 H3 := fun x o h1 h2 h => b x o h1 h2 (a x o h1 h2 h)
theorem Frm.new {s g p : Addr} {H H' : Hp} {o : HO} (a : Frm s g H H') (h : H' p = none) : Frm s g H (upd H' p o) := fun x u h1 h2 e => by
  have e' := a x u h1 h2 e
  rw [upd_ne (ne_of_none e' h)]
  exact e'
theorem Frm.updS {s g : Addr} {H H' : Hp} {o : HO} (a : Frm s g H H') : Frm s g H (upd H' s o) := fun x u h1 h2 e => by
  rw [upd_ne h1]
  exact a x u h1 h2 e
theorem Frm.updG {s g : Addr} {H H' : Hp} {o : HO} (a : Frm s g H H') : Frm s g H (upd H' g o) := fun x u h1 h2 e => by
  rw [upd_ne h2]
  exact a x u h1 h2 e
theorem Frm.same {s g : Addr} {R H H' : Hp} (a : Frm s g H H') (e : Same R H) (hs : R s = none) (hg : R g = none) : Same R H' := fun x o h => a x o (fun z => by rw [z, hs] at h; cases h) (fun z => by rw [z, hg] at h; cases h) (e x o h)
theorem dp_ints {p : Addr} {H : Hp} (ns : List Int) (h : SqL K H p (ns.map V.int)) : Dp K H (.ref p) (.list (ns.map PyData.int)) := by
  refine .lst h ?_
  clear h
  induction ns with
  | nil => exact .nil
  | cons b bs ih => exact .cons (.int b) ih
theorem shaped_ints (ns : List Int) : SeqAt.shaped (.list (ns.map PyData.int)) = true := by
  have h1 : PyData.canLayAll0 (ns.map PyData.int) = true := by
    induction ns with
    | nil => rfl
    | cons b bs ih => simp [PyData.canLayAll0, PyData.canLay0, ih]
  have h2 : PyData.depthAll (ns.map PyData.int) ≤ 1 := by
    clear h1
    induction ns with
    | nil => simp [PyData.depthAll]
    | cons b bs ih =>
      simp only [List.map_cons, PyData.depthAll, PyData.depth] at *
      omega
  unfold SeqAt.shaped
  rw [Bool.and_eq_true]
  refine ⟨h1, decide_eq_true ?_⟩
  simp only [PyData.depth]
  omega
theorem log_40 {n : Int} (h0 : 0 < n) (h : n < 2 ^ 40) : n.natAbs.log2 < 9000 := by
  have h1 : n.natAbs < 2 ^ 40 := by omega
  exact Nat.lt_trans ((Nat.log2_lt (by omega)).mpr h1) (by decide)
theorem map_get {ns : List Int} {i : Nat} {x : V} (h : (ns.map V.int)[i]? = some x) : ∃ z, ns[i]? = some z ∧ x = .int z := by
  rw [List.getElem?_map] at h
  cases e : ns[i]? with
  | none => rw [e] at h; cases h
  | some z =>
    rw [e] at h
    exact ⟨z, rfl, (Option.some.inj h).symm⟩
theorem flat_len : ∀ {cs : List (List Nat)}, (∀ c ∈ cs, c.length = 1) → cs.flatten.length = cs.length
  | [], _ => rfl
  | c :: cs, h => by
    rw [List.flatten_cons, List.length_append, h c (List.mem_cons_self ..), flat_len fun d hd => h d (List.mem_cons_of_mem _ hd), List.length_cons]
    omega
theorem isT_flat {cs : List (List Nat)} (h : ∀ c ∈ cs, isT c = true) : isT cs.flatten = true := isT_of fun x hx => by
  obtain ⟨c, hc, hm⟩ := List.mem_flatten.mp hx
  exact isT_mem (h c hc) hm
theorem repl_len (k : Nat) (l : List Nat) : (List.replicate k l).flatten.length = k * l.length := by
  rw [List.length_flatten, List.map_replicate, List.sum_replicate_nat]
theorem isT_get {l : List Nat} (h : isT l = true) {i c : Nat} (hc : l[i]? = some c) : isT [c] = true := isT_of fun x hx => by
  rw [List.mem_singleton] at hx
  subst hx
  exact isT_mem h (List.mem_of_getElem? hc)
theorem Frm.of {s g : Addr} {H H' : Hp} (e : Same H H') : Frm s g H H' := fun a o _ _ h => e a o h
theorem Frm.mut {s g B : Addr} {H H' : Hp} {o : HO} (a : Frm s g H H') (hB : H B = none) : Frm s g H (upd H' B o) := fun x u h1 h2 e => by
  rw [upd_ne (ne_of_none e hB)]
  exact a x u h1 h2 e
def RngAll (lo hi : Int) (xs : List V) : Prop := ∀ x ∈ xs, ∃ i : Int, lo ≤ i ∧ i ≤ hi ∧ x = V.int i
theorem rng_nil {lo hi : Int} : RngAll lo hi [] := fun _ h => by cases h
theorem rng_cons {lo hi i : Int} {xs : List V} (h0 : lo ≤ i) (h1 : i ≤ hi) (h : RngAll lo hi xs) : RngAll lo hi (.int i :: xs) := fun x hx => by
  rcases List.mem_cons.mp hx with rfl | hx
  · exact ⟨i, h0, h1, rfl⟩
  · exact h x hx
theorem ix_rng {H : Hp} {Q : VK} {p : Addr} {zs : List V} {lo hi : Int} {i : Int} (hp : SqL K H p zs) (ha : RngAll lo hi zs) (h0 : 0 ≤ i) (h1 : i < (zs.length : Int)) (q : ∀ z : Int, lo ≤ z → z ≤ hi → Q (.int z) H) : rIX K (.ref p) (.int i) H Q := by
  refine ix_L hp (at_in h0 h1) ?_
  have hi : i.toNat < zs.length := by omega
  obtain ⟨z, a, b, e⟩ := ha zs[i.toNat] (List.getElem_mem hi)
  rw [e]
  exact q z a b
theorem rep1 (k c : Nat) : (List.replicate k [c]).flatten = List.replicate k c := by
  induction k with
  | zero => rfl
  | succ k ih => rw [List.replicate_succ, List.flatten_cons, ih]; rfl
theorem rep1_isT {k c : Nat} (h : isT [c] = true) : isT (List.replicate k c) = true := isT_of fun x hx => by
  rw [(List.mem_replicate.mp hx).2]
  exact isT_mem h (List.mem_singleton.mpr rfl)
def menu1 : List Nat := [32, 33, 34, 35, 36, 38, 39, 40, 41, 42, 43, 44, 45, 46, 47, 48, 49, 50, 51, 52, 53, 54, 55, 56, 57, 58, 59, 60, 61, 62, 63, 64, 65, 66, 67, 68, 69, 70, 71, 72, 73, 74, 75, 76, 77, 78, 79, 80, 81, 82, 83, 84, 85, 86, 87, 88, 89, 90, 91, 92, 93, 94, 95, 96]
def menu2 : List Nat := [97, 98, 99, 100, 101, 102, 103, 104, 105, 106, 107, 108, 109, 110, 111, 112, 113, 114, 115, 116, 117, 118, 119, 120, 121, 122, 123, 124, 125, 126]
theorem digit_code {n : Nat} : ∀ c ∈ (Nat.toDigits 10 n).map Char.toNat, 48 ≤ c ∧ c ≤ 57 := by
  intro c hc
  have h1 : n < 10 ^ (n + 1) := Nat.lt_trans (Nat.lt_succ_self n) (Nat.lt_pow_self (by decide))
  have h2 := figs_isD (n + 1) n
  rw [← pad_figs (n + 1) n h1 (Nat.succ_pos _)] at h2
  have h3 := List.all_eq_true.mp h2 c (List.mem_append_right _ hc)
  rw [Bool.and_eq_true, decide_eq_true_eq, decide_eq_true_eq] at h3
  exact h3
theorem zf_num (w n : Nat) : Txt.zfill (Str.ofString (toString (n : Int))) (w : Int) = S (pad w n) := by
  rw [SX.num_S, numL_eq]
  unfold Txt.zfill pad
  have hl : (S ((Nat.toDigits 10 n).map Char.toNat)).length = (Nat.toDigits 10 n).length := by rw [S_len, List.length_map]
  show (if (w : Int) ≤ (S ((Nat.toDigits 10 n).map Char.toNat)).length then S ((Nat.toDigits 10 n).map Char.toNat) else zfilled (S ((Nat.toDigits 10 n).map Char.toNat)) ((w : Int).toNat - (S ((Nat.toDigits 10 n).map Char.toNat)).length)) = _
  rw [hl]
  by_cases h : (w : Int) ≤ (Nat.toDigits 10 n).length
  · rw [if_pos h, show w - (Nat.toDigits 10 n).length = 0 by omega]
    rfl
  · rw [if_neg h, Int.toNat_natCast]
    have hd := digit_code (n := n)
    generalize (Nat.toDigits 10 n).map Char.toNat = l at hd
    generalize w - (Nat.toDigits 10 n).length = k
    have e : zfilled (S l) k = Builtin.Str.padded (S l) k 0 48 := by
      unfold zfilled
      have h0 : ∀ c, (S l).cps[0]? = some c → 48 ≤ c := fun c hc => by
        have : l[0]? = some c := by
          have e : (S l).cps = l.toArray := rfl
          rw [e] at hc
          simpa using hc
        exact (hd c (List.mem_of_getElem? this)).1
      split
      · rename_i h
        exact absurd (h0 43 h) (by decide)
      · rename_i h
        exact absurd (h0 45 h) (by decide)
      · rfl
    rw [e]
    show (⟨_⟩ : Str) = ⟨_⟩
    congr 1
    apply Array.ext'
    simp
theorem log_small {n : Nat} (h : n < 1000000) : ((n : Int).natAbs).log2 < 1920 := by
  rw [Int.natAbs_natCast]
  by_cases h0 : n = 0
  · subst h0; decide
  · exact Nat.lt_of_lt_of_le ((Nat.log2_lt h0).mpr (show n < 2 ^ 20 by omega)) (by decide)
def tv (ls : List (List Nat)) : List V := ls.map fun l => V.str (S l)
theorem tv_len (ls : List (List Nat)) : (tv ls).length = ls.length := List.length_map ..
theorem tv_app (a b : List (List Nat)) : tv (a ++ b) = tv a ++ tv b := List.map_append ..
theorem tv_eq (ls : List (List Nat)) : tv ls = (ls.map S).map V.str := by
  unfold tv
  rw [List.map_map]
  rfl
theorem take_snoc {α : Type} {xs : List α} {i : Nat} {x : α} (h : xs[i]? = some x) : xs.take (i + 1) = xs.take i ++ [x] := by
  rw [List.take_add_one, h]
  rfl
theorem pad_le {w n : Nat} (h : n < 1000000) : (pad w n).length ≤ w + 6 := by
  unfold pad
  have h1 := toDigits_len10 (w := 6) (n := n) (by omega) (by decide)
  rw [List.length_append, List.length_replicate, List.length_map]
  omega
theorem flat_le {n : Nat} : ∀ {cs : List (List Nat)}, (∀ c ∈ cs, c.length ≤ n) → cs.flatten.length ≤ n * cs.length
  | [], _ => Nat.zero_le _
  | c :: cs, h => by
    rw [List.flatten_cons, List.length_append, List.length_cons, Nat.mul_add, Nat.mul_one]
    have h1 := h c (List.mem_cons_self ..)
    have h2 := flat_le fun d hd => h d (List.mem_cons_of_mem _ hd)
    omega
theorem sz {k : Nat} (h : k ≤ 200000) : k ≤ sizeLine := Nat.le_trans h (by decide)
theorem dp_tup2 {H : Hp} {x : V} {a b : PyData} (h : Dp K H x (.tuple [a, b])) : ∃ p u v, x = .ref p ∧ SqT K H p [u, v] ∧ Dp K H u a ∧ Dp K H v b := by
  cases h with
  | tup hs ha =>
    cases ha with
    | cons h1 ha =>
      cases ha with
      | cons h2 ha =>
        cases ha
        exact ⟨_, _, _, rfl, hs, h1, h2⟩
theorem dp_tup3 {H : Hp} {x : V} {a b c : PyData} (h : Dp K H x (.tuple [a, b, c])) : ∃ p u v z, x = .ref p ∧ SqT K H p [u, v, z] ∧ Dp K H u a ∧ Dp K H v b ∧ Dp K H z c := by
  cases h with
  | tup hs ha =>
    cases ha with
    | cons h1 ha =>
      cases ha with
      | cons h2 ha =>
        cases ha with
        | cons h3 ha =>
          cases ha
          exact ⟨_, _, _, _, rfl, hs, h1, h2, h3⟩
theorem dp_str' {H : Hp} {x : V} {z : Str} (h : Dp K H x (.str z)) : x = .str z := by
  cases h
  rfl
theorem dp_int' {H : Hp} {x : V} {z : Int} (h : Dp K H x (.int z)) : x = .int z := by
  cases h
  rfl
theorem dp_tup' {H : Hp} {x : V} {ds : List PyData} (h : Dp K H x (.tuple ds)) : ∃ p us, x = .ref p ∧ SqT K H p us ∧ DpAll K H us ds := by
  cases h with
  | tup hs ha => exact ⟨_, _, rfl, hs, ha⟩
theorem all_at {α : Type} {F : α → PyData} {H : Hp} {us : List V} {xs : List α} (h : DpAll K H us (xs.map F)) {i : Nat} {x : V} (hx : us[i]? = some x) : ∃ a, xs[i]? = some a ∧ Dp K H x (F a) := by
  have hl := dpAll_len h
  rw [List.length_map] at hl
  have hi : i < xs.length := by rw [← hl]; exact (List.getElem?_eq_some_iff.mp hx).1
  obtain ⟨v, hv, hd⟩ := dpAll_get h (i := i) (by rw [List.length_map]; exact hi)
  rw [hx] at hv
  cases hv
  rw [List.getElem_map] at hd
  exact ⟨xs[i], List.getElem?_eq_getElem hi, hd⟩
def isBo : PyData → Bool | .bool _ => true | _ => false
def isIn : PyData → Bool | .bool _ => true | .int _ => true | _ => false
def isSt : PyData → Bool | .str _ => true | _ => false
def isTu : PyData → Bool | .tuple _ => true | _ => false
def isLi : PyData → Bool | .list _ => true | _ => false
def isNo : PyData → Bool | .none => true | _ => false
theorem kit_bo {H : Hp} {x : V} {d : PyData} (h : Dp K H x d) : kitB (tyName d) "bool" = some (isBo d) := by cases h <;> first | rfl | decide +kernel
theorem kit_in {H : Hp} {x : V} {d : PyData} (h : Dp K H x d) : kitB (tyName d) "int" = some (isIn d) := by cases h <;> first | rfl | decide +kernel
theorem kit_st {H : Hp} {x : V} {d : PyData} (h : Dp K H x d) : kitB (tyName d) "str" = some (isSt d) := by cases h <;> first | rfl | decide +kernel
theorem kit_tu {H : Hp} {x : V} {d : PyData} (h : Dp K H x d) : kitB (tyName d) "tuple" = some (isTu d) := by cases h <;> first | rfl | decide +kernel
theorem kit_li {H : Hp} {x : V} {d : PyData} (h : Dp K H x d) : kitB (tyName d) "list" = some (isLi d) := by cases h <;> first | rfl | decide +kernel
theorem non_d {H : Hp} {x : V} {d : PyData} (h : Dp K H x d) : decide (x = .non) = isNo d := by cases h <;> rfl
def Up (F : PyData → Prop) : PyData → Prop
  | .list ds => ds.length ≤ 100000 ∧ ∀ e ∈ ds, F e
  | .tuple ds => ds.length ≤ 100000 ∧ ∀ e ∈ ds, F e
  | d => SeqAt.shaped d = true
def Fine : Nat → PyData → Prop
  | 0 => Up fun _ => False
  | n + 1 => Up (Fine n)
def SqX (K : PySem.W.Frag) (H : Hp) (p : Addr) (xs : List V) : Prop := SqL K H p xs ∨ SqT K H p xs
theorem SqX.mono {H H' : Hp} {p : Addr} {xs : List V} (e : Same H H') (h : SqX K H p xs) : SqX K H' p xs := h.elim (fun h => .inl (e.seq h)) fun h => .inr (same_sqt e h)
theorem ix_X {H : Hp} {Q : VK} {p : Addr} {xs : List V} {i : Int} {v : V} (h : SqX K H p xs) (ha : atI xs i = some v) (q : Q v H) : rIX K (.ref p) (.int i) H Q := h.elim (fun h => ix_L h ha q) fun h => ix_T h ha q
theorem ln_X {H : Hp} {Q : VK} {p : Addr} {xs : List V} (h : SqX K H p xs) (q : Q (.int xs.length) H) : rLEN K [.ref p] H Q := h.elim (fun h => ln_l h q) fun h => ln_t h q
def numAt (l : List Nat) (a k : Nat) : Option Nat := if ((l.take (a + k)).drop a).length = k ∧ k ≠ 0 ∧ isD ((l.take (a + k)).drop a) = true then some (NumText.digitsVal ((l.take (a + k)).drop a)) else none
inductive NumV : Option Nat → V → Prop where
  | some (n : Nat) : NumV (some n) (.int n)
  | none : NumV none .non
theorem mem_fig (c : Nat) : c ∈ [48, 49, 50, 51, 52, 53, 54, 55, 56, 57] ↔ 48 ≤ c ∧ c ≤ 57 := by
  simp only [List.mem_cons, List.not_mem_nil, or_false]
  omega
theorem isD_snoc {l : List Nat} {i c : Nat} (h : l[i]? = some c) : isD (l.take (i + 1)) = (isD (l.take i) && (decide (48 ≤ c) && decide (c ≤ 57))) := by
  rw [List.take_add_one, h]
  unfold isD
  show List.all (_ ++ [c]) _ = _
  rw [List.all_append]
  simp
theorem eqv_ints (ns : List Int) : PyData.eqv (.list (ns.map PyData.int)) (.list []) = decide (ns = []) := by
  cases ns with
  | nil => rfl
  | cons n ns =>
    rw [decide_eq_false (by intro h; cases h)]
    rfl
theorem dp_strs (H : Hp) : ∀ ls : List (List Nat), DpAll K H (tv ls) (ls.map fun l => PyData.str (S l))
  | [] => .nil
  | l :: ls => .cons (.str _) (dp_strs H ls)
def AllT (ls : List (List Nat)) : Prop := ∀ l ∈ ls, isT l = true
theorem shaped_strs (ls : List (List Nat)) (h : AllT ls) : SeqAt.shaped (.list (ls.map fun l => PyData.str (S l))) = true := by
  have h1 : PyData.canLayAll0 (ls.map fun l => PyData.str (S l)) = true := by
    induction ls with
    | nil => rfl
    | cons b bs ih =>
      have hb : PyData.strOk (S b) = true := by
        unfold PyData.strOk
        rw [← Array.all_toList, S_cps, List.all_eq_true]
        intro c hc
        have := isT_mem (h b (List.mem_cons_self ..)) hc
        exact decide_eq_true (by omega)
      simp [PyData.canLayAll0, PyData.canLay0, ih fun l hl => h l (List.mem_cons_of_mem _ hl), hb]
  have h2 : PyData.depthAll (ls.map fun l => PyData.str (S l)) ≤ 1 := by
    clear h1 h
    induction ls with
    | nil => simp [PyData.depthAll]
    | cons b bs ih =>
      simp only [List.map_cons, PyData.depthAll, PyData.depth] at *
      omega
  unfold SeqAt.shaped
  rw [Bool.and_eq_true]
  refine ⟨h1, decide_eq_true ?_⟩
  simp only [PyData.depth]
  omega
theorem eqv_strs (ls : List (List Nat)) : PyData.eqv (.list (ls.map fun l => PyData.str (S l))) (.list []) = decide (ls = []) := by
  cases ls with
  | nil => rfl
  | cons n ns =>
    rw [decide_eq_false (by intro h; cases h)]
    rfl
theorem mid {A B C : List Nat} {i j : Nat} (hi : A.length = i) (hj : i + B.length = j) : ((A ++ (B ++ C)).take j).drop i = B := by
  rw [← List.append_assoc, List.take_left' (by rw [List.length_append, hi]; exact hj), List.drop_left' hi]
theorem numAt_mid {A B C : List Nat} {a k : Nat} (ha : A.length = a) (hk : B.length = k) (h0 : k ≠ 0) (hD : isD B = true) : numAt (A ++ (B ++ C)) a k = some (NumText.digitsVal B) := by
  unfold numAt
  rw [mid ha (by rw [hk]), if_pos ⟨hk, h0, hD⟩]
theorem numAt_pad {A C : List Nat} {a w n : Nat} (ha : A.length = a) (h0 : w ≠ 0) (hn : n < 10 ^ w) : numAt (A ++ (pad w n ++ C)) a w = some n := by
  rw [pad_figs w n hn (Nat.pos_of_ne_zero h0), numAt_mid ha (figs_len w n) h0 (figs_isD w n), digitsVal_figs w n hn]
theorem pad_lenW {w n : Nat} (h0 : w ≠ 0) (hn : n < 10 ^ w) : (pad w n).length = w := by
  rw [pad_figs w n hn (Nat.pos_of_ne_zero h0), figs_len]
def kv (ks : List Nat) : List V := ks.map fun k : Nat => V.int k
theorem kv_app (a b : List Nat) : kv (a ++ b) = kv a ++ kv b := List.map_append ..
theorem kv_len (a : List Nat) : (kv a).length = a.length := List.length_map ..
theorem dp_kv (H : Hp) : ∀ ks : List Nat, DpAll K H (kv ks) (ks.map fun k : Nat => PyData.int k)
  | [] => .nil
  | k :: ks => .cons (.int _) (dp_kv H ks)
theorem shaped_str {l : List Nat} (h : isT l = true) : SeqAt.shaped (.str (S l)) = true := by
  have hb : PyData.strOk (S l) = true := by
    unfold PyData.strOk
    rw [← Array.all_toList, S_cps, List.all_eq_true]
    intro c hc
    have := isT_mem h hc
    exact decide_eq_true (by omega)
  unfold SeqAt.shaped
  simp [PyData.canLay0, PyData.depth, hb]
theorem fine_str {l : List Nat} (h : isT l = true) : ∀ n, Fine n (.str (S l))
  | 0 => shaped_str h
  | _ + 1 => shaped_str h
theorem fine_int (i : Int) : ∀ n, Fine n (.int i)
  | 0 => by show SeqAt.shaped (.int i) = true; simp [SeqAt.shaped, PyData.canLay0, PyData.depth]
  | _ + 1 => by show SeqAt.shaped (.int i) = true; simp [SeqAt.shaped, PyData.canLay0, PyData.depth]
theorem fine_non : ∀ n, Fine n .none
  | 0 => by show SeqAt.shaped .none = true; simp [SeqAt.shaped, PyData.canLay0, PyData.depth]
  | _ + 1 => by show SeqAt.shaped .none = true; simp [SeqAt.shaped, PyData.canLay0, PyData.depth]
theorem fine_tup {n : Nat} {ds : List PyData} (hl : ds.length ≤ 100000) (h : ∀ e ∈ ds, Fine n e) : Fine (n + 1) (.tuple ds) := ⟨hl, h⟩
theorem fine_lst {n : Nat} {ds : List PyData} (hl : ds.length ≤ 100000) (h : ∀ e ∈ ds, Fine n e) : Fine (n + 1) (.list ds) := ⟨hl, h⟩
theorem all2 {α : Type} {F : α → Prop} {a b : α} (h1 : F a) (h2 : F b) : ∀ e ∈ [a, b], F e := fun e he => by
  rcases List.mem_cons.mp he with rfl | he
  · exact h1
  · rw [List.mem_singleton.mp he]; exact h2
theorem all3 {α : Type} {F : α → Prop} {a b c : α} (h1 : F a) (h2 : F b) (h3 : F c) : ∀ e ∈ [a, b, c], F e := fun e he => by
  rcases List.mem_cons.mp he with rfl | he
  · exact h1
  · exact all2 h2 h3 e he
theorem pad_T {w n : Nat} (h0 : w ≠ 0) (hn : n < 10 ^ w) : isT (pad w n) = true := by
  rw [pad_figs w n hn (Nat.pos_of_ne_zero h0)]
  exact isD_isT (figs_isD w n)
theorem flat_eq {n : Nat} : ∀ {cs : List (List Nat)}, (∀ c ∈ cs, c.length = n) → cs.flatten.length = n * cs.length
  | [], _ => rfl
  | c :: cs, h => by
    rw [List.flatten_cons, List.length_append, List.length_cons, Nat.mul_add, Nat.mul_one]
    have h1 := h c (List.mem_cons_self ..)
    have h2 := flat_eq fun d hd => h d (List.mem_cons_of_mem _ hd)
    omega
end
end My

set_option Elab.async false
set_option linter.all false
set_option maxRecDepth 100000
set_option maxHeartbeats 1000000
/-! ### tuples turned about; dicts that are sorted -/
namespace My
open PySem PySem.Spec PyProof.Rows L2 PySem.MeetsSeq PySem.MeetsSeq2 PySem.MeetsSeq3
theorem adjust_rev (n : Nat) : Builtin.Slice.sliceAdjust none none (-1) (n : Int) = ((n : Int) - 1, -1) := by
  unfold Builtin.Slice.sliceAdjust
  simp only [show ((-1 : Int) < 0) by decide, if_true]
theorem places_rev (n : Nat) : Builtin.Slice.slicePlaces ((n : Int) - 1) (-1) (-1) = n := by
  unfold Builtin.Slice.slicePlaces
  simp only [show ¬ ((-1 : Int) > 0) by decide, if_false, Int.neg_neg, Int.ediv_one]
  split <;> omega
theorem pick_rev (xs : Array Value) : ((List.range xs.size).filterMap fun (m : Nat) => xs[(((xs.size : Int) - 1) + (m : Int) * (-1)).toNat]?).toArray = xs.toList.reverse.toArray := by
  congr 1
  have e1 : ∀ (ms : List Nat), (∀ m ∈ ms, m < xs.size) → ms.filterMap (fun (m : Nat) => xs[(((xs.size : Int) - 1) + (m : Int) * (-1)).toNat]?) = ms.filterMap (fun (m : Nat) => xs.toList.reverse.toArray[m]?) := by
    intro ms
    induction ms with
    | nil => intro _; rfl
    | cons m ms ih =>
      intro hm
      have h3 : m < xs.size := hm m (List.mem_cons_self ..)
      have h4 : (((xs.size : Int) - 1) + (m : Int) * (-1)).toNat = xs.size - 1 - m := by omega
      have h5 : xs[(((xs.size : Int) - 1) + (m : Int) * (-1)).toNat]? = xs.toList.reverse.toArray[m]? := by
        have a1 : xs.toList.reverse.toArray[m]? = xs.toList.reverse[m]? := by simp
        have a2 : xs.toList.reverse[m]? = xs.toList[xs.toList.length - 1 - m]? := List.getElem?_reverse (by rw [Array.length_toList]; exact h3)
        rw [h4, a1, a2, Array.length_toList, Array.getElem?_toList]
      rw [List.filterMap_cons, List.filterMap_cons, h5, ih fun x hx => hm x (List.mem_cons_of_mem _ hx)]
  rw [e1 _ fun m hm => List.mem_range.mp hm]
  have e2 := pick_run xs.toList.reverse.toArray 0 xs.size
  rw [show (List.range xs.size).map (0 + ·) = List.range xs.size by simp] at e2
  rw [e2, List.drop_zero]
  show xs.toList.reverse.take xs.size = _
  exact List.take_of_length_le (by rw [List.length_reverse, Array.length_toList]; exact Nat.le_refl _)
section
variable {prog : Program} {w : World} {A : Around} {E : Value → Shared → Prop} {s : Shared}
theorem sliceApplied_rev {sl : Addr} {vs : Value} {n : Nat} {Q : Int × Int × Nat → Shared → Prop} (hs : s.heap.IsSliceOf sl .none .none vs) (ps : IsPart vs (some (-1)))
    (h : Q ((n : Int) - 1, -1, n) s) : wpAny (model prog w) A (Builtin.Slice.sliceApplied (.ref sl) (pure (n : Int))) Q E s := by
  obtain ⟨os, hos, hcs, hds⟩ := id hs
  unfold Builtin.Slice.sliceApplied Builtin.Slice.sliceFields
  refine wpAny_bind (wpAny_bind (wpAny_field hos hds (x := .none) rfl (wpAny_bind (wpAny_field hos hds (x := .none) rfl (wpAny_bind (wpAny_field hos hds (x := vs) rfl (wpAny_pure ?_)))))))
  refine wpAny_bind (HT.slicePart_ ps ?_)
  show wpAny _ _ (if ((-1 : Int) == 0) = true then _ else _) _ _ s
  rw [if_neg (by decide)]
  refine wpAny_bind (HT.slicePart_ .none (wpAny_bind (HT.slicePart_ .none (wpAny_bind (wpAny_pure ?_)))))
  show wpAny _ _ (match Builtin.Slice.sliceAdjust none none (-1) (n : Int) with | (lo, hi) => pure (lo, (-1 : Int), Builtin.Slice.slicePlaces lo hi (-1))) _ _ s
  rw [adjust_rev n]
  show wpAny _ _ (pure ((n : Int) - 1, (-1 : Int), Builtin.Slice.slicePlaces ((n : Int) - 1) (-1) (-1))) _ _ s
  rw [places_rev]
  exact wpAny_pure h
theorem getItem_tuple_rev {t sl : Addr} {items : Array Value} {vs : Value} {Q : Value → Shared → Prop} (ht : IsTup s.heap t items) (hs : s.heap.IsSliceOf sl .none .none vs) (ps : IsPart vs (some (-1)))
    (h : Q (.ref s.heap.objs.size) { s with heap := s.heap.push { cls := .type "tuple", data := .seq items.toList.reverse.toArray } })
    (hsz : items.size ≤ sizeLine) : wpAny (model prog w) A (getItem (.ref t) (.ref sl)) Q E s := by
  have htake : sizeOk (.seq items.toList.reverse.toArray) := by
    show items.toList.reverse.toArray.size ≤ sizeLine
    rw [List.size_toArray, List.length_reverse, Array.length_toList]
    exact hsz
  obtain ⟨os, hos, hcs, hds⟩ := id hs
  have hTs : s.TypeIs (.ref sl) "slice" := ⟨os, hos, hcs⟩
  unfold getItem
  try with_reducible refine wpAny_holding ?_
  first | refine wpAny_bind (wpAny_pure ?_) | skip
  refine wpAny_bind (wpAny_sequenceKey ht.typeIs (by decide) ?_)
  refine wpAny_bind (wpAny_callSpecial?_slot (name := Str.ofString "__getitem__") ht.typeIs PyProof.Rows.slot_tuple_getitem
    (wpAny_call_entry PyProof.Rows.slot_tuple_getitem ht.typeIs entry_tuple_getitem ?_ (args_tuple_getitem _ _)))
  show wpAny _ _ (Builtin.Tuple.tupleItemsOf (.ref t) >>= _) _ _ s
  refine wpAny_bind (tupleItemsOf_ ht ?_)
  refine wpAny_bind (wpAny_typeOf hTs ?_)
  rw [if_pos (by decide)]
  refine wpAny_bind (sliceApplied_rev hs ps ?_)
  have hno : ¬ ((((items.size : Int) - 1) == 0 && (-1 : Int) == 1 && items.size == items.size) = true) := by
    intro q
    rw [Bool.and_eq_true, Bool.and_eq_true] at q
    exact absurd (eq_of_beq q.1.2) (by decide)
  show wpAny _ _ (if (((items.size : Int) - 1) == 0 && (-1 : Int) == 1 && items.size == items.size) = true then _ else _) _ _ s
  rw [if_neg hno, pick_rev]
  first
    | exact wpAny_bind (m := Builtin.Tuple.tupleExact _) (wpAny_newObj_type (wpAny_pure ⟨_, rfl, wpAny_pure h⟩) htake)
    | exact wpAny_bind (m := Builtin.Tuple.tupleExact _) (wpAny_newObj_type (wpAny_bind (wpAny_pure (wpAny_pure ⟨_, rfl, wpAny_pure h⟩))) htake)
    | exact wpAny_bind (wpAny_bind (m := Builtin.Tuple.tupleExact _) (wpAny_newObj_type (wpAny_pure (wpAny_pure ⟨_, rfl, wpAny_pure h⟩)) htake))
    | exact wpAny_bind (wpAny_bind (m := Builtin.Tuple.tupleExact _) (wpAny_newObj_type (wpAny_pure ⟨_, rfl, wpAny_pure h⟩) htake))
end
/-- t[::-1] -/
def tRevT (K : PySem.W.Frag) (te : TE) : TE := fun σ H Q => te σ H fun x H1 => ∃ a xs, x = .ref a ∧ SqT K H1 a xs ∧ ∀ p, H1 p = none → Q (.ref p) (upd H1 p (.tup xs.reverse))
theorem x_revT {K : PySem.W.Frag} {σ : L2.St} {H : Hp} {Q : VK} {te : TE} (h : te σ H fun x H1 => ∃ a xs, x = .ref a ∧ SqT K H1 a xs ∧ ∀ p, H1 p = none → Q (.ref p) (upd H1 p (.tup xs.reverse))) : tRevT K te σ H Q := h
section
variable {X : Cx}
theorem pe_revT {e : Expr} {te : TE} {k : Nat} {p1 p2 p3 pos : Pos} (he : PE X e te) : PE X (.Subscript e (.Slice none none (some (.UnaryOp .USub (.Constant (.int 1) k p1) p2)) p3) pos) (tRevT X.K te) := by
  refine ⟨fun pins s σ H Q I h => ?_⟩
  refine Subscript_ (thn (he.run pins s σ H _ I h) fun v s1 ⟨x, H1, I1, r1, q1⟩ => ?_)
  obtain ⟨a, xs, ex, hx, q⟩ := q1
  subst ex
  cases r1
  have hst : PO X (some (.UnaryOp .USub (.Constant (.int 1) k p1) p2)) (tPart (tUn (rU fun i => .int (-i)) (tC (.int 1)))) := po_some (pe_un un_neg pe_int)
  refine wpAny_Slice (thn (po_none.run pins s1 σ H1 (fun o H2 => o = none ∧ H2 = H1) I1 ⟨rfl, rfl⟩) fun vl s2 ⟨l, H2, I2, pl, el, e2⟩ => ?_)
  subst el e2
  refine thn (po_none.run pins s2 σ H2 (fun o H3 => o = none ∧ H3 = H2) I2 ⟨rfl, rfl⟩) fun vu s3 ⟨u, H3, I3, pu, eu, e3⟩ => ?_
  subst eu e3
  refine thn (hst.run pins s3 σ H3 (fun o H4 => o = some (-1) ∧ H4 = H3) I3 ⟨1, rfl, -1, rfl, rfl, rfl⟩) fun vs s4 ⟨o, H4, I4, ps, eo, e4⟩ => ?_
  subst eo e4
  cases pl
  cases pu
  have I5 : Inv X pins σ H4 { s4 with heap := s4.heap.push { cls := .type "slice", data := .fields #[.none, .none, vs] } } := I4.kept (t' := s4.toks) fun b ob q => Heap.get?_push_of_some _ q
  obtain ⟨its, r, ht, hz⟩ := I5.tuple hx
  have hlen := r.length
  show wpAny (model X.prog X.w) X.A (subscriptTail e (.Slice none none (some (.UnaryOp .USub (.Constant (.int 1) k p1) p2)) p3) (.ref a) (.ref s4.heap.objs.size)) (EP X pins σ Q) X.xe { s4 with heap := s4.heap.push { cls := .type "slice", data := .fields #[.none, .none, vs] } }
  refine tail_any (ops := [.ref a, .ref s4.heap.objs.size]) ht.typeIs (PyProof.Rows.slot_tuple_getitem.lookup) ?_ (by with_unfolding_all rfl)
  refine getItem_tuple_rev ht (Heap.IsSliceOf.new _ .none .none vs) ps ?_ (by rw [List.size_toArray]; omega)
  refine ⟨.ref _, _, I5.laid (t' := s4.toks) (o := .tup xs.reverse) (fun b ob q => Heap.get?_push_of_some _ q) (Nat.le_refl _) ?_, rfl, q _ (I5.hok.fresh (Nat.le_refl _))⟩
  exact ⟨by rw [List.length_reverse]; exact hz, _, r.reverse, IsTup.new _ _⟩
/-- sorted(d), d a dict of texts -/
def rSortD : List V → Hp → VK → Prop := fun xs H Q => ∃ (a : Addr) (kvs : List (Key × V)) (ks : List Str), xs = [.ref a] ∧ Rd H a (.dK kvs) ∧ kvs.map (·.1) = ks.map Sum.inr ∧ ks.length < 64 ∧ ∀ ys p, ys.Perm ks → sortedS ys = true → H p = none → Q (.ref p) (upd H p (.lst (ys.map V.str)))
theorem call_SORTD (hc : X.calm = true) : CallR X (.builtin "sorted") rSortD := call_sortedD hc
end
section
variable {K : PySem.W.Frag} {σ : L2.St} {H : Hp} {Q : VK} {td ty tv : TE} {n b k : L2.St → Hp → Prop} {rt : VK}
theorem s_dput (h : tv σ H fun v H1 => td σ H1 fun x H2 => ty σ H2 fun y H3 => ∃ a H4, x = .ref a ∧ DPut H3 a y v H4 ∧ n σ H4) : sDPut td ty tv ⟨n, rt, b, k⟩ σ H := h
theorem x_dget (h : td σ H fun x H1 => ty σ H1 fun y H2 => ∃ a v, x = .ref a ∧ DGet H2 a y (some v) ∧ Q v H2) : tDGet td ty σ H Q := h
theorem x_dnew (h : ∀ p, H p = none → Q (.ref p) (upd H p (.dK []))) : tDNewK σ H Q := h
end
end My

set_option Elab.async false
set_option linter.all false
set_option maxRecDepth 100000
set_option maxHeartbeats 1000000
/-! ### dicts: membership, walks, comprehensions; sorted by reverse; heaps with some objects left aside -/
namespace My
open PySem PySem.Spec PyProof.Rows L2
/-! #### two texts in their order -/
theorem txt_tri : ∀ {a b : List Nat}, ¬ b < a → a ≠ b → a < b
  | [], [], _, h2 => absurd rfl h2
  | [], _ :: _, _, _ => List.nil_lt_cons ..
  | _ :: _, [], h1, _ => absurd (List.nil_lt_cons ..) h1
  | x :: a, y :: b, h1, h2 => by
    rw [List.cons_lt_cons_iff] at h1 ⊢
    by_cases hxy : x = y
    · subst hxy
      exact .inr ⟨rfl, txt_tri (fun h => h1 (.inr ⟨rfl, h⟩)) (fun h => h2 (by rw [h]))⟩
    · exact .inl (by have : ¬ y < x := fun h => h1 (.inl h); omega)
theorem txt_irr : ∀ {a : List Nat}, ¬ a < a
  | [], h => by cases h
  | x :: a, h => by
    rw [List.cons_lt_cons_iff] at h
    rcases h with h | ⟨_, h⟩
    · exact absurd h (Nat.lt_irrefl x)
    · exact txt_irr h
theorem txt_trans : ∀ {a b c : List Nat}, a < b → b < c → a < c
  | _, _, [], _, h2 => by cases h2
  | [], _, z :: c, _, _ => List.nil_lt_cons ..
  | x :: a, [], _, h1, _ => by cases h1
  | x :: a, y :: b, z :: c, h1, h2 => by
    rw [List.cons_lt_cons_iff] at h1 h2 ⊢
    rcases h1 with h1 | ⟨rfl, h1⟩
    · rcases h2 with h2 | ⟨rfl, h2⟩
      · exact .inl (Nat.lt_trans h1 h2)
      · exact .inl h1
    · rcases h2 with h2 | ⟨rfl, h2⟩
      · exact .inl h2
      · exact .inr ⟨rfl, txt_trans h1 h2⟩
def svV : Value → List Nat
  | .str x _ => x.cps.toList
  | _ => []
def ltSv (v u : Value) : Bool := decide (svV v < svV u)
theorem swo_str : SrtO.Swo ltSv := by
  refine ⟨fun x y h => ?_, fun x y z h1 h2 => ?_⟩
  · have a := of_decide_eq_true (p := svV x < svV y) h
    exact decide_eq_false (p := svV y < svV x) fun b => txt_irr (txt_trans a b)
  · have a := of_decide_eq_false (p := svV y < svV x) h1
    have b := of_decide_eq_false (p := svV z < svV y) h2
    refine decide_eq_false (p := svV z < svV x) fun c => ?_
    by_cases e : svV x = svV y
    · exact b (by rw [← e]; exact c)
    · exact b (txt_trans c (txt_tri a e))
theorem strs_memV : ∀ {vs : List Value} {ns : List Str}, StrsAre vs ns → ∀ v ∈ vs, ∃ x t, v = Value.str x t
  | _, _, .nil, v, hv => by cases hv
  | _, _, .cons x t r, v, hv => by
    rcases List.mem_cons.mp hv with e | hv
    · exact ⟨x, t, e⟩
    · exact strs_memV r v hv
section
variable {prog : Program} {w : World} {A : Around} {E : Value → Shared → Prop} {s : Shared}
theorem str_cmp {vs : List Value} {ns : List Str} (hI : StrsAre vs ns) : SrtO.Cmp prog w A s oneType' (fun p => p.1 ∈ vs) (SrtO.lt2 ltSv) := by
  intro p q hm hm'
  obtain ⟨a, t, e⟩ := strs_memV hI _ hm
  obtain ⟨b, u, e'⟩ := strs_memV hI _ hm'
  show wpAny (model prog w) A (keyLt' oneType' p.1 q.1) (fun r s' => s' = s ∧ r = ltSv p.1 q.1) (fun _ _ => False) s
  rw [e, e', keyLt'_oneType]
  exact oneLt_str ⟨rfl, rfl⟩
theorem strs_sortable {a : Addr} {vs : List Value} {ns : List Str} (hI : StrsAre vs ns) (h2 : 2 ≤ vs.length) : SrtO.SortableO prog w A s a vs ltSv := by
  intro h' _
  refine ⟨oneType', fun Q E hq => ?_, str_cmp hI⟩
  match vs, hI, h2 with
  | v1 :: v2 :: rest, hI, _ =>
    rw [keyKind_strs hI]
    exact wpAny_pure hq
  | [], _, h => exact absurd h (by decide)
  | [v], _, h => exact absurd h (by simp)
end
theorem strs_perm {vs out : List Value} {ks : List Str} (hI : StrsAre vs ks) (h : out.Perm vs) : ∃ ys : List Str, StrsAre out ys ∧ ys.Perm ks := by
  have f : ∀ {us : List Value}, (∀ u ∈ us, ∃ x t, u = Value.str x t) → StrsAre us (us.map fun u => match u with | .str x _ => x | _ => Str.empty) := by
    intro us
    induction us with
    | nil => intro _; exact .nil
    | cons u us ih =>
      intro hu
      obtain ⟨x, t, rfl⟩ := hu u (List.mem_cons_self ..)
      exact .cons x t (ih fun v hv => hu v (List.mem_cons_of_mem _ hv))
  have g : ∀ {us : List Value} {xs : List Str}, StrsAre us xs → (us.map fun u => match u with | .str x _ => x | _ => Str.empty) = xs := by
    intro us xs r
    induction r with
    | nil => rfl
    | cons x t r ih => exact congrArg (x :: ·) ih
  refine ⟨_, f fun v hv => strs_memV hI v (h.mem_iff.mp hv), ?_⟩
  have := h.map (fun u : Value => match u with | .str x _ => x | _ => Str.empty)
  rw [g hI] at this
  exact this
/-- sorted(d, reverse=b) of a dict of texts: some row of its keys -/
def rSortDR : List V → List V → Hp → VK → Prop := fun xs zs H Q => ∃ (a : Addr) (kvs : List (Key × V)) (ks : List Str) (b : Bool), xs = [.ref a] ∧ zs = [.bl b] ∧ Rd H a (.dK kvs) ∧ kvs.map (·.1) = ks.map Sum.inr ∧ ks.length < 64 ∧
    ∀ (ys : List Str) (p : Addr), ys.Perm ks → H p = none → Q (.ref p) (upd H p (.lst (ys.map V.str)))
section
variable {X : Cx}
theorem call_SORTDR (hcalm : X.calm = true) : CallRK X (.builtin "sorted") [Str.ofString "reverse"] rSortDR := by
  intro pins s σ H xs zs us ws Q I r rz q
  obtain ⟨a, kvs, ks, b, ex, rfl, hd, hks, h64, q⟩ := q
  subst ex
  obtain ⟨u, eu, rx⟩ := vals1 r
  subst eu
  cases rx
  obtain ⟨w1, rfl, e1⟩ := vals1 rz
  obtain rfl : w1 = Value.bool b := e1
  obtain ⟨z, lo, vs, rel, dd⟩ := dk_rd I.hok hd
  obtain ⟨ep, hat⟩ := dd.dictAt
  have hkeys : vs.map (·.1) = ks.map Sum.inr := rel.keys.symm.trans hks
  have hl : vs.length = ks.length := by
    have e := congrArg List.length hkeys
    rw [List.length_map, List.length_map] at e
    exact e
  have h16 : vs.length ≤ sizeLine := by rw [hl, sizeLine_eq]; omega
  show wpAny _ _ (call (.builtin "sorted") [.ref a] [(Str.ofString "reverse", .bool b)]) _ _ _
  refine call_function_entry_kw kind_sorted plain_sorted entry_sorted (PyProof.Rows.args_sorted_rev _ _) ?_
  unfold Builtin.«sorted»
  refine wpAny_bind (m := checkCount "sorted" 1 1 _) (wpAny_pure ?_)
  refine wpAny_bind (PySem.W.kdu_collect (A := X.A.in1) (PySem.W.kdl_dict (knd := mixKind X.prog X.w) (kvs := vs) (ep := ep) lo) (I.ok.hd hcalm) hat h16 fun h' tk acc hk hacc => ?_)
  have hal : acc.toList.length = ks.length := by rw [Array.length_toList, hacc.1, hl]
  have hS : StrsAre acc.toList ks := strs_at hal fun j v e => by
    obtain ⟨k, x, e1, e2⟩ := hacc.2 j v (by rw [← Array.getElem?_toList]; exact e)
    have e3 : (vs.map (·.1))[j]? = some k := by rw [List.getElem?_map, e1]; all_goals rfl
    rw [hkeys, List.getElem?_map] at e3
    cases e4 : ks[j]? with
    | none => rw [e4] at e3; cases e3
    | some y =>
      rw [e4] at e3
      have e5 : Sum.inr y = k := Option.some.inj e3
      subst e5
      obtain ⟨t, ev⟩ := Value.isStrOf_shape (x := y) (v := v) e2
      exact ⟨y, t, rfl, ev⟩
  have I1 : Inv X pins σ H { s with heap := h', toks := tk } := I.kept hk
  refine wpAny_bind (wpAny_newList ?_ (by rw [hal, sizeLine_eq]; omega))
  have hoL : (h'.push (seqObj "list" acc.toList.toArray 0)).get? h'.objs.size = some (seqObj "list" acc.toList.toArray 0) := Heap.get?_push_size _ rfl
  show wpAny _ _ _ _ _ { s with heap := h'.push (seqObj "list" acc.toList.toArray 0), toks := tk }
  have hz : acc.toList.length ≤ sizeLine := by rw [hal, sizeLine_eq]; omega
  refine wpAny_bind (wpAny_holding (wpAny_call_entry_kw slot_list_sort ⟨_, hoL, rfl⟩ entry_list_sort ?_ (PyProof.Rows.args_list_sort_rev _ _)))
  refine SrtR.list_sort_ordR (s := { s with heap := h'.push (seqObj "list" acc.toList.toArray 0), toks := tk }) swo_str hoL hz (fun h2 => strs_sortable hS h2) fun out hs hb => ⟨_, rfl, ?_⟩
  have hp2 : (if b = true then out.toArray.reverse else out.toArray).toList.Perm acc.toList := by
    cases b with
    | true =>
      show (out.toArray.reverse).toList.Perm _
      rw [Array.toList_reverse]
      exact ((List.reverse_perm _).trans (show out.Perm acc.toList.reverse from hb.perm)).trans (List.reverse_perm _)
    | false => exact hb.perm
  obtain ⟨ys, g1, g2⟩ := strs_perm hS hp2
  obtain ⟨e', he'⟩ := PyProof.Rows.sortedHeap_at (vs := acc.toList) (out := (if b = true then out.toArray.reverse else out.toArray)) hoL
  have hlen : (ys.map V.str).length ≤ sizeLine := by
    rw [List.length_map, g2.length_eq]
    exact Nat.le_trans (Nat.le_of_lt h64) (by decide)
  refine wpAny_pure ⟨_, rfl, .ref h'.objs.size, upd H h'.objs.size (.lst (ys.map V.str)), I1.laid (t' := tk) (fun b u e => ?_) (Nat.le_refl _)
    (show ObjOk X.prog X.w _ _ _ (.lst (ys.map V.str)) from ⟨hlen, (if b = true then out.toArray.reverse else out.toArray).toList, e', vals_of_strs g1, by rw [Array.toArray_toList]; exact he'⟩), rfl, q ys _ g2 (I1.hok.fresh (Nat.le_refl _))⟩
  have hb : b < h'.objs.size := Heap.lt_size e
  rw [PyProof.Rows.sortedHeap_old (Nat.ne_of_lt hb) (by rw [size_push']; exact Nat.lt_succ_of_lt hb)]
  exact Heap.get?_push_of_some _ e
end
/-! #### readings -/
section
variable {K : PySem.W.Frag} {σ : L2.St} {H : Hp} {Q : VK} {td ty te : TE} {g : TG} {tt : TT} {ws : List Nat}
theorem x_din (h : ty σ H fun y H1 => td σ H1 fun x H2 => ∃ a o, x = .ref a ∧ DGet H2 a y o ∧ Q (.bl o.isSome) H2) : tDIn ty td σ H Q := h
theorem x_dnotin (h : ty σ H fun y H1 => td σ H1 fun x H2 => ∃ a o, x = .ref a ∧ DGet H2 a y o ∧ Q (.bl (!o.isSome)) H2) : tDNotIn ty td σ H Q := h
theorem x_lockE {t : TE} {d : Addr} {u : HO} (hd : H d = some u) (hm : Mut (some u)) (h : ∀ od, t σ (upd H d (.frz od u)) fun v H' => H' d = some (.frz od u) ∧ Q v (upd H' d u)) : tLockE t σ H Q := ⟨d, u, hd, hm, h⟩
theorem lcK_mk {i : Nat} {d : Addr} {o : Obj} {kvs : List (Key × V)} (hi : σ[i]? = some (some (.ref d))) (hk : H d = some (.frz o (.dK kvs))) (Pv : Addr → Nat → Hp → Prop) (h0 : ∀ D, H D = none → Pv D 0 (upd H D (.lst [])))
    (hl : ∀ D i H', H D = none → Pv D i H' → H' d = some (.frz o (.dK kvs)))
    (hs : ∀ D i k v H', H D = none → kvs[i]? = some (k, v) → Pv D i H' → g (kV k) (wipe σ ws) H' fun σ2 H2 => wipe σ2 ws = wipe σ ws ∧ tt σ2 H2 fun b H3 => if b = true then te σ2 H3 fun y H4 => ∃ acc, H4 D = some (.lst acc) ∧ acc.length < sizeLine ∧ Pv D (i + 1) (upd H4 D (.lst (acc ++ [y]))) else Pv D (i + 1) H3)
    (hd : ∀ D H', H D = none → Pv D kvs.length H' → Q (.ref D) H') : tLc (iKeys (tVar i)) g tt te ws σ H Q := by
  refine ⟨.ref d, hi, d, o, rfl, .inl ⟨kvs, hk, fun D hD => ⟨fun i m H' => m = kvs.length - i ∧ i ≤ kvs.length ∧ Pv D i H', ⟨kvs.length, by simp, Nat.zero_le _, h0 D hD⟩, ?_⟩⟩⟩
  rintro i m H' ⟨rfl, hi, p⟩
  have q := hl D i H' hD p
  by_cases hlt : i < kvs.length
  · refine .inr ⟨⟨q, hlt⟩, Pv D (i + 1), fun H2 p' => ⟨kvs.length - (i + 1), by omega, rfl, hlt, p'⟩, fun x H2 y => ?_⟩
    obtain ⟨rfl, k, v, e, rfl⟩ := y
    exact hs D i k v _ hD e p
  · have e : i = kvs.length := by omega
    subst e
    exact .inl ⟨⟨q, Nat.le_refl _⟩, hd D H' hD p⟩
/-- a dict comprehension over a tuple or a list -/
theorem dcT_mk {tk tv : TE} {a : Addr} {xs : List V} (hm : ∀ R : V → Hp → Prop, R (.ref a) H → td σ H R) (hx : SqT K H a xs) (Pv : Addr → Nat → Hp → Prop) (h0 : ∀ D, H D = none → Pv D 0 (upd H D (.dK [])))
    (hl : ∀ D i H', H D = none → Pv D i H' → SqT K H' a xs)
    (hs : ∀ D i x H', H D = none → xs[i]? = some x → Pv D i H' → g x (wipe σ ws) H' fun σ2 H2 => wipe σ2 ws = wipe σ ws ∧ tt σ2 H2 fun b H3 => if b = true then tk σ2 H3 fun y H4 => tv σ2 H4 fun z H5 => ∃ kvs k, y = kV k ∧ H5 D = some (.dK kvs) ∧ kvs.length < sizeLine ∧ Pv D (i + 1) (upd H5 D (.dK (putK kvs k z))) else Pv D (i + 1) H3)
    (hd : ∀ D H', H D = none → Pv D xs.length H' → Q (.ref D) H') : tDc (iTup K td) g tt tk tv ws σ H Q := by
  refine hm _ ⟨a, rfl, ⟨xs, hx⟩, fun D hD => ⟨fun i m H' => m = xs.length - i ∧ i ≤ xs.length ∧ Pv D i H', ⟨xs.length, by simp, Nat.zero_le _, h0 D hD⟩, ?_⟩⟩
  rintro i m H' ⟨rfl, hi, p⟩
  have q := hl D i H' hD p
  by_cases hlt : i < xs.length
  · refine .inr ⟨⟨xs, xs[i], q, by simp [hlt]⟩, Pv D (i + 1), fun H2 p' => ⟨xs.length - (i + 1), by omega, rfl, hlt, p'⟩, fun x H2 y => ?_⟩
    obtain ⟨e, y⟩ := y
    subst e
    exact hs D i x _ hD (y xs q) p
  · have e : i = xs.length := by omega
    subst e
    exact .inl ⟨⟨xs, q, Nat.le_refl _⟩, hd D H' hD p⟩
theorem le_ss {i j : Str} (h : Q (.bl (!decide (j.cps.toList < i.cps.toList))) H) : rLE (.str i) (.str j) H Q := .inr ⟨i, j, rfl, rfl, h⟩
theorem any_b {p : Addr} {bs : List Bool} (hs : SqL K H p (bs.map V.bl)) (h : Q (.bl (bs.any id)) H) : rAny K [.ref p] H Q := ⟨p, bs, rfl, hs, h⟩
end
/-! #### a walk over a dict's keys, under its lock -/
section
variable {σ : L2.St} {H : Hp} {n b k : L2.St → Hp → Prop} {rt : VK} {g : TG} {p : TS}
theorem forK_mk {i : Nat} {d : Addr} {kvs : List (Key × V)} (hi : σ[i]? = some (some (.ref d))) (hd : H d = some (.dK kvs)) (Pv : Obj → Nat → L2.St → Hp → Prop) (h0 : ∀ o, Pv o 0 σ (upd H d (.frz o (.dK kvs)))) (hl : ∀ o i σ H', Pv o i σ H' → H' d = some (.frz o (.dK kvs)))
    (hs : ∀ o i k' v σ H', kvs[i]? = some (k', v) → Pv o i σ H' → g (kV k') σ H' fun σ2 H2 => p ⟨Pv o (i + 1), fun x H' => H' d = some (.frz o (.dK kvs)) ∧ rt x (upd H' d (.dK kvs)), fun σ' H' => H' d = some (.frz o (.dK kvs)) ∧ n σ' (upd H' d (.dK kvs)), Pv o (i + 1)⟩ σ2 H2)
    (he : ∀ o σ H', Pv o kvs.length σ H' → n σ (upd H' d (.dK kvs))) : tLock (tFor (iKeys (tVar i)) g p) ⟨n, rt, b, k⟩ σ H := by
  refine ⟨d, .dK kvs, hd, True.intro, fun o => ?_⟩
  refine ⟨.ref d, hi, d, o, rfl, .inl ⟨kvs, upd_same, ?_⟩⟩
  refine ⟨fun i m σ' H' => m = kvs.length - i ∧ i ≤ kvs.length ∧ Pv o i σ' H', ⟨kvs.length, by simp, Nat.zero_le _, h0 o⟩, ?_⟩
  rintro i m σ' H' ⟨rfl, hi, pv⟩
  have q := hl o i σ' H' pv
  by_cases hlt : i < kvs.length
  · refine .inr ⟨⟨q, hlt⟩, Pv o (i + 1), fun σ2 H2 p' => ⟨kvs.length - (i + 1), by omega, rfl, hlt, p'⟩, fun x H2 y => ?_⟩
    obtain ⟨rfl, k', v, e, rfl⟩ := y
    exact hs o i k' v σ' _ e pv
  · have e : i = kvs.length := by omega
    subst e
    exact .inl ⟨⟨q, Nat.le_refl _⟩, q, he o σ' H' pv⟩
end
/-! #### a heap with some objects left aside -/
def ms (L : List Addr) (H : Hp) : Hp := fun x => if x ∈ L then none else H x
section
variable {K : PySem.W.Frag} {L : List Addr} {H H' : Hp}
theorem ms_le : Same (ms L H) H := fun x o h => by
  unfold ms at h
  by_cases e : x ∈ L
  · rw [if_pos e] at h; cases h
  · rwa [if_neg e] at h
theorem ms_at {x : Addr} {o : HO} (e : x ∉ L) (h : H x = some o) : ms L H x = some o := by
  unfold ms
  rw [if_neg e]
  exact h
theorem ms_out {x : Addr} {o : HO} (h : ms L H x = some o) : x ∉ L := fun e => by
  unfold ms at h
  rw [if_pos e] at h
  cases h
theorem ms_mono (h : ∀ x o, x ∉ L → H x = some o → H' x = some o) : Same (ms L H) (ms L H') := fun x o e => ms_at (ms_out e) (h x o (ms_out e) (ms_le _ _ e))
theorem ms_same (h : Same H H') : Same (ms L H) (ms L H') := ms_mono fun x o _ e => h x o e
theorem ms_new {p : Addr} {o : HO} (h : H p = none) : Same (ms L H) (ms L (upd H p o)) := ms_same (same_upd h)
theorem ms_upd {p : Addr} {o : HO} (h : p ∈ L) : Same (ms L H) (ms L (upd H p o)) := ms_mono fun x u hx e => by
  rw [upd_ne (fun z => hx (by rw [z]; exact h))]
  exact e
theorem ms_frm {s g : Addr} (hs : s ∈ L) (hg : g ∈ L) (h : Frm s g H H') : Same (ms L H) (ms L H') := ms_mono fun x o hx e => h x o (fun z => hx (z ▸ hs)) (fun z => hx (z ▸ hg)) e
/-- what is in the list is no tuple -/
def NoT : HO → Prop
  | .tup _ => False
  | .frz _ (.tup _) => False
  | _ => True
def NoL : HO → Prop
  | .lst _ => False
  | .frz _ (.lst _) => False
  | _ => True
theorem ms_sqt {a : Addr} {xs : List V} (hL : ∀ x ∈ L, ∀ o, H x = some o → NoT o) (h : SqT K H a xs) : SqT K (ms L H) a xs := by
  have off : ∀ o, H a = some o → ¬ NoT o → a ∉ L := fun o e z y => z (hL a y o e)
  rcases h with (h | ⟨o, h⟩) | h
  · exact .inl (.inl (ms_at (off _ h fun z => z) h))
  · exact .inl (.inr ⟨o, ms_at (off _ h fun z => z) h⟩)
  · exact .inr h
mutual
/-- data without lists and dicts -/
def tupD : PyData → Bool
  | .tuple ds => tupDs ds
  | .list _ => false
  | .dict _ => false
  | _ => true
def tupDs : List PyData → Bool
  | [] => true
  | d :: ds => tupD d && tupDs ds
end
mutual
theorem ms_dp (hL : ∀ x ∈ L, ∀ o, H x = some o → NoT o) : ∀ (d : PyData) (v : V), tupD d = true → Dp K H v d → Dp K (ms L H) v d
  | _, _, _, .non => .non
  | _, _, _, .bl b => .bl b
  | _, _, _, .int i => .int i
  | _, _, _, .str x => .str x
  | .list ds, _, z, .lst h a => by rw [tupD] at z; cases z
  | .tuple ds, _, z, .tup h a => .tup (ms_sqt hL h) (ms_dps hL ds _ (by rw [tupD] at z; exact z) a)
theorem ms_dps (hL : ∀ x ∈ L, ∀ o, H x = some o → NoT o) : ∀ (ds : List PyData) (vs : List V), tupDs ds = true → DpAll K H vs ds → DpAll K (ms L H) vs ds
  | _, _, _, .nil => .nil
  | d :: ds, v :: vs, z, .cons h t => by
    rw [tupDs, Bool.and_eq_true] at z
    exact .cons (ms_dp hL d v z.1 h) (ms_dps hL ds vs z.2 t)
end
theorem tupDs_of : ∀ {ds : List PyData}, (∀ d ∈ ds, tupD d = true) → tupDs ds = true
  | [], _ => by rw [tupDs]
  | d :: ds, h => by rw [tupDs, h d (List.mem_cons_self ..), tupDs_of fun e he => h e (List.mem_cons_of_mem _ he)]; rfl
/-- data that stands in a part of the heap stands in the whole -/
theorem ms_un {d : PyData} {v : V} (h : Dp K (ms L H) v d) : Dp K H v d := dp_mono ms_le _ _ h
end
end My

set_option Elab.async false
set_option linter.all false
set_option maxRecDepth 100000
set_option maxHeartbeats 200000
/-! MyH: enumerate(tuple, start=k). -/
namespace My
open PySem PySem.Spec PyProof.Rows L2
/-- the tuple at a, each item in a new pair with its number, from k on -/
def Iten (K : PySem.W.Frag) (k : Int) (a : Addr) : It :=
  ⟨fun i H => ∃ (xs : List V) (x : V), SqT K H a xs ∧ xs[i]? = some x, fun i H v H' => ∃ T x, v = .ref T ∧ H T = none ∧ H' = upd H T (.tup [.int (k + (i : Nat)), x]) ∧ ∀ xs, SqT K H a xs → xs[i]? = some x, fun i H => ∃ xs : List V, SqT K H a xs ∧ xs.length ≤ i⟩
section
variable {M : Model} {A : Around} {E : Value → Shared → Prop} {s : Shared} {env : Env}
theorem callWith_type_kwT {pos : Pos} {T : String} {first : List Value} {args : List (Bool × Sem Value)} {keywords : List (Option Str × Sem Value)} {Q : Value → Shared → Prop} (hplain : args.any (·.1) = false) (hkw : keywords.any (·.1.isNone) = false)
    (h : wpAny M A (evalArgs (.type T) true args keywords) (fun a s₁ => wpAny M A (call (.type T) (first ++ a.pos) a.kw) Q E s₁) E s) :
    wpAny M A (callWith pos (.type T) first args keywords) Q E s := by
  unfold callWith
  refine wpAny_bind (wpAny_holding (wpAny_mono h (fun a s₁ h₁ => wpAny_bind (wpAny_standAt ?_)) fun _ _ x => x))
  simp only [hplain, hkw, Bool.or_false]
  refine wpAny_bind (wpAny_pure ?_)
  exact wpAny_bind (wpAny_mono h₁ (fun r s₂ hr => wpAny_bind (wpAny_holding (wpAny_point (wpAny_pure hr)))) fun _ _ x => x)
theorem callWith_kwT {pos : Pos} {T : String} {e : Expr} {rest : List Expr} {kws : List Keyword} {Q : Value → Shared → Prop}
    (h : wpAny M A (spliced (backTo pos (starEach (e :: rest) env))) (fun vs s₁ => wpAny M A (evalAll ((backToKw pos (keywordEach kws env)).map (·.2)))
      (fun kvs s₂ => wpAny M A (call (.type T) vs (((backToKw pos (keywordEach kws env)).filterMap (·.1)).zip kvs)) Q E s₂) E s₁) E s)
    (he : backTo pos (starEach (e :: rest) env) = (false, eval e env) :: backTo pos (starEach rest env))
    (hplain : (backTo pos (starEach (e :: rest) env)).any (·.1) = false)
    (hall : (backToKw pos (keywordEach kws env)).all (·.1.isSome) = true)
    (hkw : (backToKw pos (keywordEach kws env)).any (·.1.isNone) = false) :
    wpAny M A (callWith pos (.type T) [] (backTo pos (starEach (e :: rest) env)) (backToKw pos (keywordEach kws env))) Q E s := by
  refine callWith_type_kwT hplain hkw ?_
  rw [he] at h ⊢
  exact evalArgs_kwB hall h
end
theorem enum_end_tup {prog : Program} {w : World} {A : Around} {E : Value → Shared → Prop} {s : Shared} {e it t : Addr} {i : Nat} {c : Int} {items : Array Value} {old : Value} {Q : Option Value → Shared → Prop} (hh : A.handled = none)
    (he : IsEnum s.heap e it c old) (hit : s.heap.IsTupleIter it t i) (ht : s.heap.IsTuple t items) (hx : items[i]? = none)
    (hQ : ∀ h', Heap.ExtBut it s.heap h' → Q none { s with heap := h' }) : wpAny (model prog w) A (pyNext (.ref e)) Q E s := by
  have hT : s.TypeIs (.ref e) "enumerate" := ⟨_, he, rfl⟩
  unfold pyNext
  refine wpAny_bind (wpAny_attempt (wpAny_callSpecial?_slot (name := Str.ofString "__next__") hT F.slot_enumerate_next
    (wpAny_call_entry F.slot_enumerate_next hT F.entry_enumerate_next ?_ (F.args_enumerate_next_1 _))))
  show wpAny _ _ (field (.ref e) 2 >>= _) _ _ _
  refine wpAny_bind (wpAny_field he rfl (x := .ref it) rfl ?_)
  refine wpAny_bind (wpAny_nextOf_tuple_end hh hit ht hx fun h' x he' hx' => ?_)
  obtain ⟨o, ho, hc⟩ := hx'
  refine wpAny_bind (wpAny_isInstance (T := "StopIteration") (b := true) ⟨o, ho, hc⟩ isSubtype_stop ?_)
  exact wpAny_pure (hQ _ he')
theorem turn_enumS {P : Program} {w : World} {K : PySem.W.Frag} {elts : List Expr} {kk : Nat} {tpos : Pos} (k : Int) (a e it : Addr) :
    Turn P w K (.Tuple elts kk tpos) (Iten K k a) [e, it] e (fun i h => (∃ old, IsEnum h e it (k + ((i : Nat) : Int)) old) ∧ h.IsTupleIter it a i ∧ e ≠ it) where
  mem := by simp
  obj := fun i h st b hb => by
    obtain ⟨⟨old, he⟩, ⟨o, ho, hc, hd⟩, _⟩ := st
    have e' : b = e ∨ b = it := by simpa using hb
    rcases e' with z | z
    · rw [z]; exact ⟨_, he, fun v q => nomatch q⟩
    · rw [z]; exact ⟨o, ho, fun v q => by rw [hd] at q; cases q⟩
  keep := fun i h h' st k => let ⟨⟨old, he⟩, hi, hne⟩ := st; ⟨⟨old, k e (by simp) _ he⟩, hi.at fun o q => k it (by simp) o q, hne⟩
  item := by
    intro X hP hw hK hc i pins s σ H E I hf st hg
    subst hP hw hK
    obtain ⟨⟨old, he⟩, hit, hne⟩ := st
    obtain ⟨xs, x, hq, hx⟩ := hg
    obtain ⟨its, rv, p, hz⟩ := I.tuple hq
    obtain ⟨u, hu, ru⟩ := rv.get hx
    have p' : s.heap.IsTuple a its.toArray := p
    have hel : e < s.heap.objs.size := Heap.lt_size he
    have hil : it < s.heap.objs.size := by obtain ⟨_, q, _⟩ := hit; exact Heap.lt_size q
    have hai : a ≠ it := by
      rintro rfl
      obtain ⟨o1, e1, c1, d1⟩ := hit
      obtain ⟨o2, e2, c2, _⟩ := p'
      rw [e1] at e2
      cases e2
      rw [c1] at c2
      injection c2 with z
      exact absurd z (by decide)
    have hae : e ∉ [it, a] := by
      intro z
      have z' : e = it ∨ e = a := by simpa using z
      rcases z' with z | z
      · exact hne z
      · subst z
        obtain ⟨o2, e2, c2, _⟩ := p'
        have he' : s.heap.get? e = _ := he
        rw [he'] at e2
        cases e2
        injection c2 with z
        exact absurd z (by decide)
    have hlt : i < its.toArray.size := by
      have := (List.getElem?_eq_some_iff.mp hu).1
      simpa using this
    refine wpAny_pyNext_enum_itemC (Draws.tuple (prog := X.prog) (w := X.w) (A := X.A.in1) (I.ok.hd hc) it a hai its.toArray) he ⟨hit, p'⟩ hlt hne hae fun x1 h' tk hx1 ho st' hT hsz hk => ?_
    have hxu : x1 = u := by
      have e1 : its.toArray[i]? = some u := by simpa using hu
      rw [e1] at hx1
      exact (Option.some.inj hx1).symm
    subst hxu
    refine ⟨_, rfl, wpAny_letOwnedTupleGo_enum (s := { s with heap := h', toks := tk + 1 }) ho fun h'' he' sb => ?_⟩
    have hT2 : h''.get? s.heap.objs.size = some { cls := .type "tuple", data := .seq #[.int (k + (i : Nat)) tk, x1] } := (sb.2 _ (Nat.ne_of_gt hel)).trans hT
    have new : ObjOk X.prog X.w (upd H s.heap.objs.size (.tup [.int (k + (i : Nat)), x])) h'' s.heap.objs.size (.tup [.int (k + (i : Nat)), x]) :=
      ⟨by show 2 ≤ sizeLine; decide, [.int (k + (i : Nat)) tk, x1], .cons ⟨_, rfl⟩ (.cons ru .nil), ⟨_, hT2, rfl, _, rfl⟩⟩
    have I1 : Inv X pins σ (upd H s.heap.objs.size (.tup [.int (k + (i : Nat)), x])) { s with heap := h'', toks := tk + 1 } :=
      I.turnedNew (ch := [e, it]) (fun b ob hb q => (sb.2 b (fun z => hb (by simp [z]))).trans (hk b ob (fun z => hb (by simp [z])) (fun z => hb (by simp [z])) q)) hf (Nat.le_refl _) new
    refine ⟨.ref s.heap.objs.size, _, I1, rfl, ⟨_, x, rfl, I.hok.fresh (Nat.le_refl _), rfl, fun ys hy => by rw [I.tuple_inj hy hq]; exact hx⟩, ⟨⟨x1, ?_⟩, st'.1.at fun o q => (sb.2 it (Ne.symm hne)).trans q, hne⟩, fun b hb => ?_⟩
    · have e1 : k + ((i + 1 : Nat) : Int) = k + (i : Int) + 1 := by omega
      rw [e1]; exact he'
    · have hb' : b < s.heap.objs.size := by
        have e' : b = e ∨ b = it := by simpa using hb
        rcases e' with z | z
        · rw [z]; exact hel
        · rw [z]; exact hil
      rw [upd_ne (Nat.ne_of_lt hb')]
      exact (hf b hb).1
  done := by
    intro X hP hw hK hc i pins s σ H E I hf st hg
    subst hP hw hK
    obtain ⟨⟨old, he⟩, hit, hne⟩ := st
    obtain ⟨xs, hq, hx⟩ := hg
    obtain ⟨its, rv, p, hz⟩ := I.tuple hq
    obtain ⟨f0, f1, f2, f3, f4, f5⟩ := hf it (by simp)
    have hl := rv.length
    have p' : s.heap.IsTuple a its.toArray := p
    have hai : a ≠ it := by
      rintro rfl
      obtain ⟨o1, e1, c1, d1⟩ := hit
      obtain ⟨o2, e2, c2, _⟩ := p'
      rw [e1] at e2
      cases e2
      rw [c1] at c2
      injection c2 with z
      exact absurd z (by decide)
    exact enum_end_tup (I.ok.hd hc) he hit p' (by simp; omega) fun h' eb => ⟨rfl, I.turned (t' := s.toks) (fun b o hb q => eb b o hb q) f0 f1 f3 f4 f5⟩
  self := fun A i s Q E st h => let ⟨⟨_, he⟩, _⟩ := st; wpAny_pyIter_enum he h
def iEnumS (K : PySem.W.Frag) (ta tk : TA) : TI := fun σ H R => ta σ H fun vs H1 => tk σ H1 fun zs H2 => ∃ a xs k, vs = [.ref a] ∧ zs = [.int k] ∧ -(2 ^ 63) ≤ k ∧ k < 2 ^ 63 ∧ SqT K H2 a xs ∧ R (Iten K k a) H2
theorem pi_enumS {X : Cx} {e : Expr} {kws : List Keyword} {ta tk : TA} {p pos tpos : Pos} {elts : List Expr} {kk : Nat} (hg : Gl X "enumerate") (hm : X.mg "enumerate" = none) (ha : PA X [e] ta) (hk : PK X kws tk)
    (he : backTo pos (starEach [e] X.env) = (false, eval e X.env) :: backTo pos (starEach [] X.env) := by rfl) (hpl : (backTo pos (starEach [e] X.env)).any (·.1) = false := by rfl)
    (hall : (backToKw pos (keywordEach kws X.env)).all (·.1.isSome) = true := by rfl) (hnone : (backToKw pos (keywordEach kws X.env)).any (·.1.isNone) = false := by rfl) (hks : (backToKw pos (keywordEach kws X.env)).filterMap (·.1) = [Str.ofString "start"] := by rfl) :
    PI X (.Tuple elts kk tpos) (.Call (.Name "enumerate" p) [e] kws pos) (iEnumS X.K ta tk) := by
  refine ⟨fun pins s σ H R I h => ?_⟩
  refine wpAny_Call_Name_kw (ld_blt I hg hm boot_enumerate ?_)
  refine callWith_kwT (thn (ha.run pos pins s σ H _ I h) fun us s1 ⟨vs, H1, I1, r1, q1⟩ => thn (hk.run pos pins s1 σ H1 _ I1 q1) fun ws s2 ⟨zs, H2, I2, r2, q2⟩ => ?_) he hpl hall hnone
  rw [hks]
  obtain ⟨a, xs, k, ex, ez, k0, k1, hq, q⟩ := q2
  subst ex
  subst ez
  obtain ⟨u, eu, rx⟩ := vals1 r1
  subst eu
  cases rx
  obtain ⟨w1, rfl, e1⟩ := vals1 r2
  obtain ⟨t, rfl⟩ : ∃ t, w1 = Value.int k t := e1
  obtain ⟨its, rv, p', hz⟩ := I2.tuple hq
  show wpAny _ _ (call (.type "enumerate") [.ref a] [(Str.ofString "start", .int k t)]) _ _ _
  refine enum_begins_start (begins_tuple a its.toArray) (show s2.heap.IsTuple a its.toArray from p') k0 k1 fun h' he hit hsz hk => wpAny_pyIter_enum he ?_
  have I3 : Inv X pins σ H2 { s2 with heap := h' } := I2.kept (t' := s2.toks) hk
  refine ⟨s2.heap.objs.size + 1, [s2.heap.objs.size + 1, s2.heap.objs.size], _, _, H2, rfl, I3, turn_enumS k a (s2.heap.objs.size + 1) s2.heap.objs.size, ⟨⟨.none, by rw [show k + ((0 : Nat) : Int) = k by omega]; exact he⟩, ⟨_, hit, rfl, rfl⟩, Nat.succ_ne_self _⟩, fun b hb => ?_, q⟩
  have e' : b = s2.heap.objs.size + 1 ∨ b = s2.heap.objs.size := by simpa using hb
  have hle : s2.heap.objs.size ≤ b := by
    rcases e' with z | z
    · rw [z]; exact Nat.le_add_right _ _
    · rw [z]; exact Nat.le_refl _
  exact I2.fpOk hle (I2.hok.fresh hle)
end My

set_option Elab.async false
set_option linter.all false
set_option maxRecDepth 100000
set_option maxHeartbeats 1000000
/-! MyI: sorted of rows of data, dict(pairs), a tuple backwards, isinstance of a dict. -/
namespace My
open PySem PySem.Spec PyProof.Rows L2
/-- values with what they mean, in their order -/
def sortVD (us : List V) (ds : List PyData) : List (V × PyData) := (us.zip ds).mergeSort (PySem.W.dataLe false Prod.snd)
theorem dpAll_each {X : Cx} {pins : List (Addr × Obj)} {σ : St} {H : Hp} {s : Shared} (I : Inv X pins σ H s) : ∀ {us : List V} {ds : List PyData} {ws : List Value}, Vals us ws → DpAll X.K H us ds →
    PySem.W.EachIs (fun v (b : V × PyData) => RelV b.1 v) ws (us.zip ds) ∧ PySem.W.EachIs (fun v (b : V × PyData) => ∃ as, Reads s.heap v b.2 as) ws (us.zip ds) ∧ (us.zip ds).map Prod.snd = ds ∧ (us.zip ds).length = ds.length := by
  intro us ds ws r
  induction r generalizing ds with
  | nil => intro h; cases h; exact ⟨.nil, .nil, rfl, rfl⟩
  | cons h t ih =>
    intro q
    cases q with
    | cons d1 d2 =>
      obtain ⟨a1, a2, a3, a4⟩ := ih d2
      refine ⟨.cons h a1, .cons (Dp.reads I _ _ _ d1 h) a2, ?_, ?_⟩
      · rw [List.zip_cons_cons, List.map_cons, a3]
      · rw [List.zip_cons_cons, List.length_cons, List.length_cons, a4]
theorem each_vals {out : List Value} {bs : List (V × PyData)} (h : PySem.W.EachIs (fun v (b : V × PyData) => RelV b.1 v) out bs) : Vals (bs.map Prod.fst) out := by
  induction h with
  | nil => exact .nil
  | cons h t ih => exact .cons h ih
/-- sorted(xs) of a list of rows of data -/
def rSortVD (K : PySem.W.Frag) : List V → Hp → VK → Prop := fun xs H Q => ∃ (a : Addr) (us : List V) (ds : List PyData), xs = [.ref a] ∧ SqL K H a us ∧ DpAll K H us ds ∧ PySem.W.AllAlike ds ∧ PySem.W.Sortable ds ∧ ds.length ≤ 100000 ∧ (∀ d ∈ ds, d.depth ≤ 10) ∧
  ∀ p : Addr, H p = none → Q (.ref p) (upd H p (.lst ((sortVD us ds).map Prod.fst)))
section
variable {X : Cx}
theorem cr_sortedVD (hu : X.A.units + 64 < cLine) : CallR X (.builtin "sorted") (rSortVD X.K) := by
  intro pins s σ H vs ws Q I r h
  obtain ⟨a, us, ds, rfl, hs, hd, hal, hso, hlen, hdep, q⟩ := h
  obtain ⟨its, rv, hl, _⟩ := I.list hs
  rw [Vals.ref1 r]
  obtain ⟨e1, e2, e3, e4⟩ := dpAll_each I rv hd
  have hml : (sortVD us ds).length = ds.length := by
    unfold sortVD
    rw [List.length_mergeSort, e4]
  refine PySem.W.sorted_data hl.isList e1 e2 (by rw [e3]; exact hal) (by rw [e3]; exact hso) (by rw [e4]; exact Nat.le_trans hlen (by decide)) (fun b hb => ?_) fun out ho eo => ?_
  · have hb2 : b.2 ∈ ds := by
      rw [← e3]
      exact List.mem_map.mpr ⟨b, hb, rfl⟩
    have := hdep _ hb2
    omega
  · obtain ⟨ep, he'⟩ := PyProof.Rows.sortedAll_at s.heap its out.toArray
    have hl2 : ((sortVD us ds).map Prod.fst).length ≤ sizeLine := by
      rw [List.length_map, hml]
      exact Nat.le_trans hlen (by decide)
    exact ⟨.ref _, upd H (s.heap.objs.size + 1) (.lst ((sortVD us ds).map Prod.fst)), I.laid (t' := s.toks) (fun _ _ => PyProof.Rows.sortedAll_old) (Nat.le_succ _) ⟨hl2, out, ep, each_vals eo, he'⟩, rfl, q _ (I.hok.fresh (Nat.le_succ _))⟩
end
/-! dict(pairs) -/
/-- references to pairs of a key and a value -/
inductive PairsV (K : PySem.W.Frag) (H : Hp) : List V → List (Key × V) → Prop
  | nil : PairsV K H [] []
  | cons {T : Addr} {us : List V} {k : Key} {x : V} {kvs : List (Key × V)} : SqT K H T [kV k, x] → PairsV K H us kvs → PairsV K H (V.ref T :: us) ((k, x) :: kvs)
theorem prs_of {X : Cx} {pins : List (Addr × Obj)} {σ : St} {H : Hp} {s : Shared} (I : Inv X pins σ H s) : ∀ {us : List V} {kvs : List (Key × V)} {its : List Value}, Vals us its → PairsV X.K H us kvs →
    ∃ (ps : List (Value × Value)) (ts : List Addr) (rs : List (Key × Value)), ps.length = kvs.length ∧ its.length = kvs.length ∧ rs.length = kvs.length ∧ KV kvs rs ∧
      (∀ (j : Nat) (k v : Value), ps[j]? = some (k, v) → its[j]? = some (Value.ref ((ts[j]?).getD 0)) ∧ PairAt s.heap ((ts[j]?).getD 0) k v) ∧ (∀ (j : Nat) (k v : Value), ps[j]? = some (k, v) → ∃ q, rs[j]? = some (q, v) ∧ (mixKind X.prog X.w).is q k = true) := by
  intro us kvs its r
  induction r generalizing kvs with
  | nil =>
    intro h
    cases h
    exact ⟨[], [], [], rfl, rfl, rfl, .nil, (fun j k v h => by cases h), (fun j k v h => by cases h)⟩
  | @cons u w us its h t ih =>
    intro q
    cases q with
    | @cons T us' k x kvs' hT hr =>
      obtain ⟨ps, ts, rs, e1, e2, e3, e4, e5, e6⟩ := ih hr
      cases (show w = Value.ref T from h)
      obtain ⟨its', rv, p, _⟩ := I.tuple hT
      cases rv with
      | @cons _ w1 _ _ r1 r2 =>
        cases r2 with
        | @cons _ w2 _ _ r2 r3 =>
          cases r3
          refine ⟨(w1, w2) :: ps, T :: ts, (k, w2) :: rs, by rw [List.length_cons, List.length_cons, e1], by rw [List.length_cons, List.length_cons, e2], by rw [List.length_cons, List.length_cons, e3], .cons ⟨rfl, r2⟩ e4, fun j a b hj => ?_, fun j a b hj => ?_⟩
          · cases j with
            | zero =>
              cases hj
              exact ⟨rfl, .inl p⟩
            | succ j => exact e5 j a b hj
          · cases j with
            | zero =>
              cases hj
              exact ⟨k, rfl, kV_is r1⟩
            | succ j => exact e6 j a b hj
def rDictP (K : PySem.W.Frag) : List V → Hp → VK → Prop := fun xs H Q => ∃ (a : Addr) (us : List V) (kvs : List (Key × V)), xs = [.ref a] ∧ SqL K H a us ∧ PairsV K H us kvs ∧ kvs.length ≤ 100000 ∧ ∀ p : Addr, H p = none → Q (.ref p) (upd H p (.dK (mergeK [] kvs)))
section
variable {X : Cx}
theorem cr_dictP (hcalm : X.calm = true) : CallR X (.type "dict") (rDictP X.K) := by
  intro pins s σ H vs ws Q I r h
  obtain ⟨a, us, kvs, rfl, hs, hp, hlen, q⟩ := h
  obtain ⟨its, rv, hl, _⟩ := I.list hs
  rw [Vals.ref1 r]
  obtain ⟨ps, ts, rs, e1, e2, e3, e4, e5, e6⟩ := prs_of I rv hp
  refine call_dict_pairs (knd := mixKind X.prog X.w) (kvs := rs) (PairArg.list a its.toArray (fun j => (ts[j]?).getD 0) ps) (I.ok.hd hcalm) ⟨hl, by rw [List.size_toArray, e1, e2], fun j k v hj => ⟨by simpa using (e5 j k v hj).1, (e5 j k v hj).2⟩⟩ ⟨by rw [e3, e1], fun j k v hj => e6 j k v hj⟩ (by rw [e1]; exact Nat.le_trans hlen (by decide)) fun h' tk hd hk => ?_
  have hz : (mergeK [] kvs).length ≤ sizeLine := by
    have h1 := length_mergeK kvs []
    rw [List.length_nil] at h1
    exact Nat.le_trans h1 (Nat.le_trans (show 0 + kvs.length ≤ 100000 by omega) (by decide))
  exact ⟨.ref _, upd H s.heap.objs.size (.dK (mergeK [] kvs)), I.laid (t' := tk) (fun b o e => hk b o (fun z => by cases z) e) (Nat.le_refl _) (dk_new hz (beq_eq_false_iff_ne.mpr (Ne.symm (Nat.ne_of_lt I.big))) (e4.merge .nil) hd), rfl, q _ (I.hok.fresh (Nat.le_refl _))⟩
end
end My

set_option Elab.async false
set_option linter.all false
set_option maxRecDepth 100000
set_option maxHeartbeats 1000000
/-! MyJ: enumerate(range(i, j, c)). -/
namespace My
open PySem PySem.Spec PyProof.Rows L2
open Sem (wp)
/-- a range at r begins -/
theorem begins_rng (r : Addr) (i j c : Int) (t u v : Tok) (hs : Builtin.Range.small i j c = true) : Begins (.ref r) { cls := .type "range_iterator", data := .fields #[rawInt i, rawInt (Builtin.Range.rangeSize i j c), rawInt c] } fun h => IsRange h r i j c t u v where
  iter := fun prog w A E s Q hl h => wpAny_pyIter_range hl hs h
  keeps := fun h h' x hk => hk r _ x
  free := rfl
theorem new_enum1 {v : Value} {o : Obj} {H : Heap → Prop} (B : Begins v o H) :
    Meets (Builtin.«enumerate.__new__» ⟨[.type "enumerate", v], []⟩) (fun _ R s => H s.heap ∧
      R (.ok (.ret (.ref (s.heap.push o).objs.size))) { s with heap := (s.heap.push o).push { cls := .type "enumerate", data := .fields #[.none, .bool false, .ref s.heap.objs.size, rawInt 0, .none, .none] } }) :=
  .of_wp fun prog w A R s hh => by
    obtain ⟨hp, gs, dr, tk, os⟩ := s
    obtain ⟨h1, h⟩ := hh
    have sub := sub_enumerate
    have begun : ∀ {A' : Around} {E : Value → Shared → Prop} {Q : Value → Shared → Prop}, Q (.ref hp.objs.size) ⟨hp.push o, gs, dr, tk, os⟩ → wpAny (model prog w) A' (pyIter v) Q E ⟨hp, gs, dr, tk, os⟩ := fun q => B.iter prog w _ _ ⟨hp, gs, dr, tk, os⟩ _ h1 q
    wp_walk using begun
    refine wpAny_stack_any fun st => wpAny_pure ?_
    split
    · rename_i c _ _ _ _ _
      cases (c == Value.type "enumerate") <;> (wp_walk using begun; exact ⟨_, rfl, h⟩)
    · wp_walk using begun
      exact ⟨_, rfl, h⟩
theorem call_enum1 {prog : Program} {w : World} {A : Around} {E : Value → Shared → Prop} {s : Shared} {v : Value} {o : Obj} {H : Heap → Prop} {Q : Value → Shared → Prop} (B : Begins v o H) (h1 : H s.heap)
    (h : ∀ h', IsEnum h' (s.heap.objs.size + 1) s.heap.objs.size 0 .none → h'.get? s.heap.objs.size = some o → (∀ b u, s.heap.get? b = some u → h'.get? b = some u) → Q (.ref (s.heap.objs.size + 1)) { s with heap := h' }) :
    wpAny (model prog w) A (call (.type "enumerate") [v]) Q E s := by
  refine callType_new F.called_enumerate (by decide) (F.typeCall_enumerate_1 _) (F.newCall_enumerate_1 _) (fun obj => F.args_object_init_2 obj _) F.entry_enumerate_new (new_enum1 B) ⟨h1, ?_⟩
  have size1 : (s.heap.push o).objs.size = s.heap.objs.size + 1 := Heap.size_push ..
  show _ ∧ _
  rw [size1]
  have laid : ((s.heap.push o).push { cls := .type "enumerate", data := .fields #[.none, .bool false, .ref s.heap.objs.size, rawInt 0, .none, .none] }).get? (s.heap.objs.size + 1) = some { cls := .type "enumerate", data := .fields #[.none, .bool false, .ref s.heap.objs.size, rawInt 0, .none, .none] } := by
    rw [← size1]
    exact Heap.get?_push_size (s.heap.push o) rfl
  exact ⟨⟨_, laid, rfl⟩, h _ laid (Heap.get?_push_of_some _ (Heap.get?_push_size _ B.free)) fun b u x => Heap.get?_push_of_some _ (Heap.get?_push_of_some _ x)⟩
section
variable {prog : Program} {w : World} {A : Around} {E : Value → Shared → Prop} {s : Shared}
theorem next_rng_item {it : Addr} {x left step : Int} {Q : Value → Shared → Prop} (hit : IsRangeIter s.heap it x left step) (hl : 0 < left)
    (hQ : ∀ h', IsRangeIter h' it (x + step) (left - 1) step → Heap.SameBut it s.heap h' → Q (.int x s.toks) { s with heap := h', toks := s.toks + 1 }) : wpAny (model prog w) A (Builtin.SmallTypes.nextOf (.ref it)) Q E s := by
  have ty : s.TypeIs (.ref it) "range_iterator" := ⟨_, hit, rfl⟩
  unfold Builtin.SmallTypes.nextOf
  refine wpAny_bind (wpAny_callSpecial?_slot (name := Str.ofString "__next__") ty F.slot_range_iterator_next (call_meets F.slot_range_iterator_next ty F.entry_range_iterator_next (F.args_range_iterator_next_1 _)
    (AutoRange.range_iterator___next___range_iterator_1 it x left step (by omega)) ⟨hit, ?_⟩))
  exact wpAny_pure (hQ _ (Heap.get?_update_self _ (Heap.get?_update_self _ hit rfl) rfl) ((Heap.SameBut.update ..).trans (Heap.SameBut.update ..)))
theorem next_rng_end {it : Addr} {x left step : Int} {Q : Value → Shared → Prop} (hh : A.handled = none) (hit : IsRangeIter s.heap it x left step) (hl : left ≤ 0)
    (hE : ∀ h' e, Heap.ExtBut it s.heap h' → (∃ o, h'.get? e = some o ∧ o.cls = .type "StopIteration") → E (.ref e) { s with heap := h' }) : wpAny (model prog w) A (Builtin.SmallTypes.nextOf (.ref it)) Q E s := by
  have ty : s.TypeIs (.ref it) "range_iterator" := ⟨_, hit, rfl⟩
  unfold Builtin.SmallTypes.nextOf
  refine wpAny_bind (wpAny_callSpecial?_slot (name := Str.ofString "__next__") ty F.slot_range_iterator_next (wpAny_call_entry F.slot_range_iterator_next ty F.entry_range_iterator_next ?_ (F.args_range_iterator_next_1 _)))
  show wpAny _ _ (field (.ref it) 0 >>= _) _ _ s
  refine wpAny_bind (wpAny_field hit rfl (x := rawInt x) rfl ?_)
  show wpAny _ _ (field (.ref it) 1 >>= _) _ _ s
  refine wpAny_bind (wpAny_field hit rfl (x := rawInt left) rfl ?_)
  show wpAny _ _ (field (.ref it) 2 >>= _) _ _ s
  refine wpAny_bind (wpAny_field hit rfl (x := rawInt step) rfl ?_)
  show wpAny _ _ (if left ≤ 0 then _ else _) _ _ s
  rw [if_pos hl]
  refine wpAny_bind (wpAny_rule (wpAny_bind ?_))
  show wpAny _ _ (newExc (.type "StopIteration") [] >>= _) _ _ _
  refine wpAny_bind ?_
  simp only [newExc, newTuple]
  refine wpAny_bind (wpAny_newObj_type ?_ (by size_fits))
  refine wpAny_bind (m := firstArgMember _ _) (wpAny_of_eq (a := Value.none) (by first | rfl | (simp only [firstArgMember]; rfl)) (wpAny_newObj_type ?_ (by size_fits)))
  simp only [raiseNew]
  refine wpAny_bind (wpAny_handled ?_)
  rw [show A.in1.handled = none from hh]
  exact wpAny_bind (wpAny_pure (wpAny_throw (hE _ _ (((Heap.ExtBut.refl it s.heap).push _).push _) ⟨_, Heap.get?_push_size _ rfl, rfl⟩)))
end
/-- what a range draws -/
theorem draws_rng {prog : Program} {w : World} {A : Around} (hh : A.handled = none) (it : Addr) (lo c : Int) (n : Nat) :
    Draws prog w A it [it] n (fun i v => ∃ t, v = .int (lo + (i : Nat) * c) t) (fun i h => IsRangeIter h it (lo + (i : Nat) * c) ((n : Int) - (i : Nat)) c) where
  live := fun _ _ st => ⟨_, st⟩
  frame := fun _ _ _ st hk => hk it (by simp) _ st
  item := fun i s Q E hi st hQ => by
    refine next_rng_item st (by omega) fun h' st' hs => hQ _ h' _ ⟨_, rfl⟩ ?_ hs
    have e1 : lo + ((i + 1 : Nat) : Int) * c = lo + (i : Nat) * c + c := by
      rw [show ((i + 1 : Nat) : Int) = (i : Nat) + 1 by omega, Int.add_mul, Int.one_mul]
      omega
    have e2 : (n : Int) - ((i + 1 : Nat) : Int) = (n : Int) - (i : Nat) - 1 := by omega
    show IsRangeIter h' it (lo + ((i + 1 : Nat) : Int) * c) ((n : Int) - ((i + 1 : Nat) : Int)) c
    rw [e1, e2]
    exact st'
  done := fun s Q E st hE => next_rng_end hh st (by omega) hE
/-- the numbers of a range, each in a new pair with its place -/
def Iter1 (lo c : Int) (n : Nat) : It :=
  ⟨fun i _ => i < n, fun i H v H' => ∃ T, v = .ref T ∧ H T = none ∧ H' = upd H T (.tup [.int (i : Nat), .int (lo + (i : Nat) * c)]), fun i _ => i = n⟩
theorem turn_enumR {P : Program} {w : World} {K : PySem.W.Frag} {elts : List Expr} {kk : Nat} {tpos : Pos} (lo c : Int) (n : Nat) (e it : Addr) :
    Turn P w K (.Tuple elts kk tpos) (Iter1 lo c n) [e, it] e (fun i h => (∃ old, IsEnum h e it ((i : Nat) : Int) old) ∧ IsRangeIter h it (lo + (i : Nat) * c) ((n : Int) - (i : Nat)) c ∧ e ≠ it) where
  mem := by simp
  obj := fun i h st b hb => by
    obtain ⟨⟨old, he⟩, hi, _⟩ := st
    have e' : b = e ∨ b = it := by simpa using hb
    rcases e' with z | z
    · rw [z]; exact ⟨_, he, fun v q => nomatch q⟩
    · rw [z]; exact ⟨_, hi, fun v q => nomatch q⟩
  keep := fun i h h' st k => let ⟨⟨old, he⟩, hi, hne⟩ := st; ⟨⟨old, k e (by simp) _ he⟩, k it (by simp) _ hi, hne⟩
  item := by
    intro X hP hw hK hc i pins s σ H E I hf st hg
    subst hP hw hK
    obtain ⟨⟨old, he⟩, hit, hne⟩ := st
    have hel : e < s.heap.objs.size := Heap.lt_size he
    have hil : it < s.heap.objs.size := Heap.lt_size hit
    refine wpAny_pyNext_enum_itemC (draws_rng (prog := X.prog) (w := X.w) (A := X.A.in1) (I.ok.hd hc) it lo c n) he hit hg hne (by simpa using hne) fun x1 h' tk hx1 ho st' hT hsz hk => ?_
    obtain ⟨t1, rfl⟩ := hx1
    refine ⟨_, rfl, wpAny_letOwnedTupleGo_enum (s := { s with heap := h', toks := tk + 1 }) ho fun h'' he' sb => ?_⟩
    have hT2 : h''.get? s.heap.objs.size = some { cls := .type "tuple", data := .seq #[.int (i : Nat) tk, .int (lo + (i : Nat) * c) t1] } := (sb.2 _ (Nat.ne_of_gt hel)).trans hT
    have new : ObjOk X.prog X.w (upd H s.heap.objs.size (.tup [.int (i : Nat), .int (lo + (i : Nat) * c)])) h'' s.heap.objs.size (.tup [.int (i : Nat), .int (lo + (i : Nat) * c)]) :=
      ⟨by show 2 ≤ sizeLine; decide, [.int (i : Nat) tk, .int (lo + (i : Nat) * c) t1], .cons ⟨_, rfl⟩ (.cons ⟨_, rfl⟩ .nil), ⟨_, hT2, rfl, _, rfl⟩⟩
    have I1 : Inv X pins σ (upd H s.heap.objs.size (.tup [.int (i : Nat), .int (lo + (i : Nat) * c)])) { s with heap := h'', toks := tk + 1 } :=
      I.turnedNew (ch := [e, it]) (fun b ob hb q => (sb.2 b (fun z => hb (by simp [z]))).trans (hk b ob (fun z => hb (by simp [z])) (fun z => hb (by simp [z])) q)) hf (Nat.le_refl _) new
    refine ⟨.ref s.heap.objs.size, _, I1, rfl, ⟨_, rfl, I.hok.fresh (Nat.le_refl _), rfl⟩, ⟨⟨.int (lo + (i : Nat) * c) t1, ?_⟩, (sb.2 it (Ne.symm hne)).trans st', hne⟩, fun b hb => ?_⟩
    · have e1 : ((i + 1 : Nat) : Int) = (i : Int) + 1 := by omega
      rw [e1]; exact he'
    · have hb' : b < s.heap.objs.size := by
        have e' : b = e ∨ b = it := by simpa using hb
        rcases e' with z | z
        · rw [z]; exact hel
        · rw [z]; exact hil
      rw [upd_ne (Nat.ne_of_lt hb')]
      exact (hf b hb).1
  done := by
    intro X hP hw hK hc i pins s σ H E I hf st hg
    subst hP hw hK
    obtain ⟨⟨old, he⟩, hit, hne⟩ := st
    have hg' : i = n := hg
    subst hg'
    obtain ⟨f0, f1, f2, f3, f4, f5⟩ := hf it (by simp)
    exact wpAny_pyNext_enum_endD (draws_rng (prog := X.prog) (w := X.w) (A := X.A.in1) (I.ok.hd hc) it lo c i) he hit fun h' eb => ⟨rfl, I.turned (t' := s.toks) (fun b o hb q => eb b o hb q) f0 f1 f3 f4 f5⟩
  self := fun A i s Q E st h => let ⟨⟨_, he⟩, _⟩ := st; wpAny_pyIter_enum he h
/-- enumerate(range(i, j, c)) -/
def iEnumR (ta : TA) : TI := fun σ H R => ta σ H fun vs H1 => ∃ (i j c : Int) (n : Nat), vs = [.int i, .int j, .int c] ∧ RgC i j c n ∧ R (Iter1 i c n) H1
theorem pi_enumR {X : Cx} {a b c : Expr} {ta : TA} {p p2 pos pos2 tpos : Pos} {elts : List Expr} {kk : Nat} (hg : Gl X "enumerate") (hm : X.mg "enumerate" = none) (hgR : Gl X "range") (hmR : X.mg "range" = none) (ha : PA X [a, b, c] ta)
    (hs : starEach [a, b, c] X.env = (false, eval a X.env) :: starEach [b, c] X.env := by rfl) (hpl : (backTo pos2 (starEach [b, c] X.env)).any (·.1) = false := by rfl)
    (h1 : starEach [.Call (.Name "range" p2) [a, b, c] [] pos2] X.env = (false, eval (.Call (.Name "range" p2) [a, b, c] [] pos2) X.env) :: starEach [] X.env := by rfl) :
    PI X (.Tuple elts kk tpos) (.Call (.Name "enumerate" p) [.Call (.Name "range" p2) [a, b, c] [] pos2] [] pos) (iEnumR ta) := by
  refine ⟨fun pins s σ H R I h => ?_⟩
  refine Call_ (ld_blt I hg hm boot_enumerate (PyProof.Rows.callWith_type1 (spliced_more (Call_ (ld_blt I hgR hmR boot_range (PyProof.Rows.callWith_type1 (thn (ha.run pos2 pins s σ H _ I h) fun us s1 ⟨vs, H1, I1, r1, q1⟩ => ?_) hs hpl))) h1) h1 rfl))
  obtain ⟨i, j, k, n, e, ⟨c0, c1, c2, c3⟩, q⟩ := q1
  subst e
  cases r1 with
  | cons r rr =>
    cases rr with
    | cons r' rr =>
      cases rr with
      | cons r'' rr =>
        cases rr
        obtain ⟨t, rfl⟩ := r
        obtain ⟨t', rfl⟩ := r'
        obtain ⟨t'', rfl⟩ := r''
        refine call_range_3 c0 (spliced_none ?_) (.inl (PyProof.noPylong_small c1))
        have I2 : Inv X pins σ H1 { s1 with heap := s1.heap.push { cls := .type "range", data := .fields #[.int i t, .int j t', .int k t''] } } := I1.kept (t' := s1.toks) fun b o e => Heap.get?_push_of_some _ e
        refine call_enum1 (begins_rng _ i j k t t' t'' c2) (IsRange.new ..) fun h' he hit hk => wpAny_pyIter_enum he ?_
        have I3 : Inv X pins σ H1 { s1 with heap := h' } := I2.kept (t' := s1.toks) hk
        refine ⟨_, [_, _], _, _, H1, rfl, I3, turn_enumR i k n _ _, ⟨⟨.none, he⟩, ?_, Nat.succ_ne_self _⟩, fun b hb => ?_, q⟩
        · have e1 : i + ((0 : Nat) : Int) * k = i := by simp
          have e2 : (n : Int) - ((0 : Nat) : Int) = Builtin.Range.rangeSize i j k := by rw [c3]; simp
          show IsRangeIter _ _ (i + ((0 : Nat) : Int) * k) ((n : Int) - ((0 : Nat) : Int)) k
          rw [e1, e2]
          exact hit
        · have e' : b = (s1.heap.push { cls := .type "range", data := .fields #[.int i t, .int j t', .int k t''] }).objs.size + 1 ∨ b = (s1.heap.push { cls := .type "range", data := .fields #[.int i t, .int j t', .int k t''] }).objs.size := by simpa using hb
          have hle : (s1.heap.push { cls := .type "range", data := .fields #[.int i t, .int j t', .int k t''] }).objs.size ≤ b := by
            rcases e' with z | z
            · rw [z]; exact Nat.le_add_right _ _
            · rw [z]; exact Nat.le_refl _
          exact I2.fpOk hle (I2.hok.fresh hle)
/-! comprehensions over enumerate -/
section
variable {K : PySem.W.Frag} {g : TG} {t : TT} {te : TE} {ws : List Nat} {σ : L2.St} {Q : VK} {H : Hp} {tr tk : TA}
def LcER (g : TG) (tt : TT) (te : TE) (ws : List Nat) (σ : L2.St) (Q : VK) (vs : List V) (H : Hp) : Prop := ∃ (i j c : Int) (n : Nat), vs = [.int i, .int j, .int c] ∧ RgC i j c n ∧ LcW (Iter1 i c n) g tt te ws σ Q H
theorem c_er (h : tr σ H fun vs H1 => LcER g t te ws σ Q vs H1) : tLc (iEnumR tr) g t te ws σ H Q := h
/-- the step is given a new pair at T -/
theorem lcER_mk {lo j c : Int} {n : Nat} (hr : RgC lo j c n) (Pv : Addr → Nat → Hp → Prop) (h0 : ∀ D, H D = none → Pv D 0 (upd H D (.lst [])))
    (hs : ∀ D (i : Nat) H' T, H D = none → i < n → Pv D i H' → H' T = none → g (.ref T) (wipe σ ws) (upd H' T (.tup [.int (i : Nat), .int (lo + (i : Nat) * c)])) fun σ2 H2 => wipe σ2 ws = wipe σ ws ∧ t σ2 H2 fun b H3 => if b = true then te σ2 H3 fun y H4 => ∃ acc, H4 D = some (.lst acc) ∧ acc.length < sizeLine ∧ Pv D (i + 1) (upd H4 D (.lst (acc ++ [y]))) else Pv D (i + 1) H3)
    (hd : ∀ D H', H D = none → Pv D n H' → Q (.ref D) H') : LcER g t te ws σ Q [.int lo, .int j, .int c] H := by
  refine ⟨lo, j, c, n, rfl, hr, fun D hD => ⟨fun i m H' => m = n - i ∧ i ≤ n ∧ Pv D i H', ⟨n, by simp, Nat.zero_le _, h0 D hD⟩, ?_⟩⟩
  rintro i m H' ⟨rfl, hi, p⟩
  by_cases hlt : i < n
  · refine .inr ⟨hlt, Pv D (i + 1), fun H2 p2 => ⟨n - (i + 1), by omega, rfl, hlt, p2⟩, fun x H2 y => ?_⟩
    obtain ⟨T, rfl, hT, rfl⟩ := y
    exact hs D i H' T hD hlt p hT
  · have e : i = n := by omega
    subst e
    exact .inl ⟨rfl, hd D H' hD p⟩
def LcES (K : PySem.W.Frag) (g : TG) (tt : TT) (te : TE) (ws : List Nat) (σ : L2.St) (Q : VK) (vs zs : List V) (H : Hp) : Prop := ∃ a xs k, vs = [.ref a] ∧ zs = [.int k] ∧ -(2 ^ 63) ≤ k ∧ k < 2 ^ 63 ∧ SqT K H a xs ∧ LcW (Iten K k a) g tt te ws σ Q H
theorem c_es (h : tr σ H fun vs H1 => tk σ H1 fun zs H2 => LcES K g t te ws σ Q vs zs H2) : tLc (iEnumS K tr tk) g t te ws σ H Q := h
theorem lcES_mk {a : Addr} {xs : List V} {k : Int} (hk : -(2 ^ 63) ≤ k ∧ k < 2 ^ 63) (hx : SqT K H a xs) (Pv : Addr → Nat → Hp → Prop) (h0 : ∀ D, H D = none → Pv D 0 (upd H D (.lst []))) (hl : ∀ D i H', H D = none → i ≤ xs.length → Pv D i H' → SqT K H' a xs)
    (hs : ∀ D (i : Nat) x H' T, H D = none → xs[i]? = some x → Pv D i H' → H' T = none → g (.ref T) (wipe σ ws) (upd H' T (.tup [.int (k + (i : Nat)), x])) fun σ2 H2 => wipe σ2 ws = wipe σ ws ∧ t σ2 H2 fun b H3 => if b = true then te σ2 H3 fun y H4 => ∃ acc, H4 D = some (.lst acc) ∧ acc.length < sizeLine ∧ Pv D (i + 1) (upd H4 D (.lst (acc ++ [y]))) else Pv D (i + 1) H3)
    (hd : ∀ D H', H D = none → Pv D xs.length H' → Q (.ref D) H') : LcES K g t te ws σ Q [.ref a] [.int k] H := by
  refine ⟨a, xs, k, rfl, rfl, hk.1, hk.2, hx, fun D hD => ⟨fun i m H' => m = xs.length - i ∧ i ≤ xs.length ∧ Pv D i H', ⟨xs.length, by simp, Nat.zero_le _, h0 D hD⟩, ?_⟩⟩
  rintro i m H' ⟨rfl, hi, p⟩
  have ha := hl D i H' hD hi p
  by_cases hlt : i < xs.length
  · refine .inr ⟨⟨xs, xs[i], ha, List.getElem?_eq_getElem hlt⟩, Pv D (i + 1), fun H2 p2 => ⟨xs.length - (i + 1), by omega, rfl, hlt, p2⟩, fun x H2 y => ?_⟩
    obtain ⟨T, x1, rfl, hT, rfl, hx1⟩ := y
    exact hs D i x1 H' T hD (hx1 xs ha) p hT
  · have e : i = xs.length := by omega
    subst e
    exact .inl ⟨⟨xs, ha, Nat.le_refl _⟩, hd D H' hD p⟩
end
/-! letters -/
def rM_isalpha : V → List V → Hp → VK → Prop := fun x xs H Q => ∃ a, x = .str a ∧ xs = [] ∧ True ∧ Q (.bl (Txt.isalpha a)) H
def rM_islower : V → List V → Hp → VK → Prop := fun x xs H Q => ∃ a, x = .str a ∧ xs = [] ∧ True ∧ Q (.bl (Txt.islower a)) H
theorem mal_s {s : Str} {H : Hp} {Q : VK} (h : Q (.bl (Txt.isalpha s)) H) : rM_isalpha (.str s) [] H Q := ⟨s, rfl, rfl, True.intro, h⟩
theorem mlo_s {s : Str} {H : Hp} {Q : VK} (h : Q (.bl (Txt.islower s)) H) : rM_islower (.str s) [] H Q := ⟨s, rfl, rfl, True.intro, h⟩
/-! name = {k: v for ..} on one line -/
section
variable {X : Cx}
theorem sw_trueD {kx vx : Expr} {gs : List Comprehension} {scope : Scope} {pos py : Pos} {y : Str} {l : Nat} {env : Env} (hk : env.scope.kind = .function) (hy : env.scope.names.lookup y = some .local) (hl : (py.line == pos.line) = true)
    (ha : (scope.names.any fun (n, k) => n == y && (k == .local || k == .cell)) = false) : swapsWith (.DictComp kx vx gs scope pos) (some (.Name y py)) l env = pure true := by
  have ky : env.kindOf y = some .local := hy
  have hb : env.blockKind = .function := by unfold Env.blockKind; rw [hk]; rfl
  unfold swapsWith
  simp only [hb, ky, ha, Expr.pos, hl]
  rfl
theorem ps_setDc {i : Nat} {y : Str} {py : Pos} {kx vx tg iter : Expr} {ifs : List Expr} {scope : Scope} {own : List (Str × Nat)} {pos spos : Pos} {wi : TI} {g : TG} {tt : TT} {tk tv : TE} (hc : X.calm = true) (hN : X.N.Nodup) (hy : X.N[i]? = some y) (hyl : X.env.scope.names.lookup y = some .local)
    (hsw : swapsWith (.DictComp kx vx [⟨tg, iter, ifs, 0⟩] scope pos) (some (.Name y py)) spos.line X.env = pure true) (hi : PI X tg iter wi) (ok : BlkOk X.N X.env.scope scope own)
    (hg : ∀ (s : Shared) (H : Hp) (C : Addr) (cl : List (Str × Addr)) (fp : List Addr), PG (X.blk s H scope (compEnvC scope cl C X.env) fp) tg g) (ht : ∀ (s : Shared) (H : Hp) (C : Addr) (cl : List (Str × Addr)) (fp : List Addr), PTs (X.blk s H scope (compEnvC scope cl C X.env) fp) ifs tt)
    (hk : ∀ (s : Shared) (H : Hp) (C : Addr) (cl : List (Str × Addr)) (fp : List Addr), PE (X.blk s H scope (compEnvC scope cl C X.env) fp) kx tk)
    (he : ∀ (s : Shared) (H : Hp) (C : Addr) (cl : List (Str × Addr)) (fp : List Addr), PE (X.blk s H scope (compEnvC scope cl C X.env) fp) vx tv) (hs : ∀ x, foldedSetIterable iter X.env x = pure x := by intro _; rfl) :
    PS X (.Assign [.Name y py] (.DictComp kx vx [⟨tg, iter, ifs, 0⟩] scope pos) spos) (tAsg (tDc wi g tt tk tv (own.map (·.2))) (gName i)) := by
  refine ⟨fun pins s σ H D I h => ?_⟩
  rw [exec_Assign_Name_used _ _ _ _ hsw]
  refine wpAny_bind (wpAny_standAt (wpAny_bind ?_))
  show wpAny _ X.A (do let _ ← comprehension (.DictComp kx vx [⟨tg, iter, ifs, 0⟩] scope pos) scope X.env (firstIterPos [⟨tg, iter, ifs, 0⟩] pos) newDict false (eval iter X.env) (some (assign (.Name y py) X.env))) _ _ s
  have h : tDc wi g tt tk tv (own.map (·.2)) σ H (fun x H1 => gName i x σ H1 D.nx) := h
  refine wpAny_bind (thn (dc_core (Qf := fun _ s' => SP X pins D .next s') hc hN I hi ok hg ht hk he hs h fun L C s' m H' I' q hn f => ?_) fun _ s' hq => wpAny_pure (wpAny_pure hq))
  show wpAny _ _ (assign (.Name y py) X.env (.ref L)) _ _ _
  refine wpAny_assign_Name (store_ok2 (v := V.ref L) I' hN hy (.inl hyl) rfl (fun s2 I2 ⟨a, sb, ha⟩ => ?_) (.inr hyl))
  obtain ⟨f0, f1, f2, f3, f4, f5⟩ := f
  have off : C ≠ a := by
    rcases ha with z | z
    · exact z ▸ f1
    · exact fun e => f4 y a z e.symm
  exact ⟨m, hn.sameBut sb off, fun h3 sb3 => ⟨_, H', I2.turned (t' := s2.toks) (fun b o hb e => (sb3.2 b hb).trans e) f0 f1 f3 f4 f5, q⟩⟩
end
theorem x_dget1 {td ty : TE} {σ : L2.St} {H : Hp} {Q : VK} (h : td σ H fun x H1 => ∃ a, x = .ref a ∧ IsD H1 a ∧ ty σ H1 fun y H2 => ∃ o, DGet H2 a y o ∧ Q (o.getD .non) H2) : tDGet1 td ty σ H Q := h
end My

set_option Elab.async false
set_option linter.all false
set_option maxRecDepth 100000
set_option maxHeartbeats 1000000
/-! ### sorted(d) of a dict of many texts -/
namespace My
open PySem PySem.Spec PyProof.Rows L2
theorem srt_strs : ∀ {vs : List Value} {ns : List Str}, StrsAre vs ns → SrtO.Srtd ltSv vs → sortedS ns = true
  | _, _, .nil, _ => rfl
  | _, _, .cons x t .nil, _ => rfl
  | _, _, .cons x t (.cons y u r), h => by
    have h1 := List.pairwise_cons.mp h
    have h2 := srt_strs (.cons y u r) h1.2
    have h3 : decide (y.cps.toList < x.cps.toList) = false := h1.1 _ (List.mem_cons_self ..)
    show (!ltCps y.cps.toList x.cps.toList && _) = true
    rw [ltCps_eq, h3]
    exact h2
def rSortDB : List V → Hp → VK → Prop := fun xs H Q => ∃ (a : Addr) (kvs : List (Key × V)) (ks : List Str), xs = [.ref a] ∧ Rd H a (.dK kvs) ∧ kvs.map (·.1) = ks.map Sum.inr ∧ ks.length ≤ 100000 ∧ ∀ (ys : List Str) (p : Addr), ys.Perm ks → sortedS ys = true → H p = none → Q (.ref p) (upd H p (.lst (ys.map V.str)))
section
variable {X : Cx}
theorem call_SORTDB (hcalm : X.calm = true) : CallR X (.builtin "sorted") rSortDB := by
  intro pins s σ H xs ws Q I r q
  obtain ⟨a, kvs, ks, ex, hd, hks, h64, q⟩ := q
  subst ex
  obtain ⟨u, eu, rx⟩ := vals1 r
  subst eu
  cases rx
  obtain ⟨z, lo, vs, rel, dd⟩ := dk_rd I.hok hd
  obtain ⟨ep, hat⟩ := dd.dictAt
  have hkeys : vs.map (·.1) = ks.map Sum.inr := rel.keys.symm.trans hks
  have hl : vs.length = ks.length := by
    have e := congrArg List.length hkeys
    rw [List.length_map, List.length_map] at e
    exact e
  have h16 : vs.length ≤ sizeLine := by rw [hl]; exact Nat.le_trans h64 (by decide)
  refine Calls.call_function_entry PyProof.Rows.kind_sorted PyProof.Rows.plain_sorted PyProof.Rows.entry_sorted (PyProof.Rows.args_sorted1 _) ?_
  unfold Builtin.«sorted»
  refine wpAny_bind (m := checkCount "sorted" 1 1 _) (wpAny_pure ?_)
  refine wpAny_bind (PySem.W.kdu_collect (A := X.A.in1) (PySem.W.kdl_dict (knd := mixKind X.prog X.w) (kvs := vs) (ep := ep) lo) (I.ok.hd hcalm) hat h16 fun h' tk acc hk hacc => ?_)
  have hal : acc.toList.length = ks.length := by rw [Array.length_toList, hacc.1, hl]
  have hS : StrsAre acc.toList ks := strs_at hal fun j v e => by
    obtain ⟨k, x, e1, e2⟩ := hacc.2 j v (by rw [← Array.getElem?_toList]; exact e)
    have e3 : (vs.map (·.1))[j]? = some k := by rw [List.getElem?_map, e1]; all_goals rfl
    rw [hkeys, List.getElem?_map] at e3
    cases e4 : ks[j]? with
    | none => rw [e4] at e3; cases e3
    | some y =>
      rw [e4] at e3
      have e5 : Sum.inr y = k := Option.some.inj e3
      subst e5
      obtain ⟨t, ev⟩ := Value.isStrOf_shape (x := y) (v := v) e2
      exact ⟨y, t, rfl, ev⟩
  have I1 : Inv X pins σ H { s with heap := h', toks := tk } := I.kept hk
  have hz : acc.toList.length ≤ sizeLine := by rw [hal]; exact Nat.le_trans h64 (by decide)
  refine wpAny_bind (wpAny_newList ?_ hz)
  have hoL : (h'.push (seqObj "list" acc.toList.toArray 0)).get? h'.objs.size = some (seqObj "list" acc.toList.toArray 0) := Heap.get?_push_size _ rfl
  show wpAny _ _ _ _ _ { s with heap := h'.push (seqObj "list" acc.toList.toArray 0), toks := tk }
  refine wpAny_bind (wpAny_holding (wpAny_call_entry PyProof.Rows.slot_list_sort ⟨_, hoL, rfl⟩ PyProof.Rows.entry_list_sort
    (SrtO.list_sort_ord (s := { s with heap := h'.push (seqObj "list" acc.toList.toArray 0), toks := tk }) swo_str hoL hz (fun h2 => strs_sortable hS h2) fun out hs hb => ⟨_, rfl, ?_⟩)
    (PyProof.Rows.args_list_sort _)))
  obtain ⟨ys, g1, g2⟩ := strs_perm hS hb.perm
  obtain ⟨e', he'⟩ := PyProof.Rows.sortedHeap_at (vs := acc.toList) (out := out.toArray) hoL
  have hlen : (ys.map V.str).length ≤ sizeLine := by
    rw [List.length_map, g2.length_eq]
    exact Nat.le_trans h64 (by decide)
  refine wpAny_pure ⟨_, rfl, .ref h'.objs.size, upd H h'.objs.size (.lst (ys.map V.str)), I1.laid (t' := tk) (fun b u e => ?_) (Nat.le_refl _)
    (show ObjOk X.prog X.w _ _ _ (.lst (ys.map V.str)) from ⟨hlen, out, e', vals_of_strs g1, he'⟩), rfl, q ys _ g2 (srt_strs g1 hs) (I1.hok.fresh (Nat.le_refl _))⟩
  have hb : b < h'.objs.size := Heap.lt_size e
  rw [PyProof.Rows.sortedHeap_old (Nat.ne_of_lt hb) (by rw [size_push']; exact Nat.lt_succ_of_lt hb)]
  exact Heap.get?_push_of_some _ e
end
end My

set_option Elab.async false
set_option linter.all false
set_option maxRecDepth 100000
set_option maxHeartbeats 1000000
/-! ### errors that are caught and then held by a name -/
namespace My
open PySem PySem.Spec PyProof.Rows L2
/-- an error of the class cls without a dict of its own, no longer in the air -/
def ExK (cls : Value) (a : Addr) : HO := .ext fun h => ∃ (oe : Obj) (vs : Array Value), h.get? a = some oe ∧ Zc cls none oe ∧ oe.data = .fields vs
section
variable {X : Cx} {pins : List (Addr × Obj)} {σ : L2.St} {H : Hp} {s : Shared}
theorem Inv.hold {a : Addr} {oe : Obj} {vs : Array Value} {cls : Value} (I : Inv X pins σ H s) (ha : s.heap.get? a = some oe) (hz : Zc cls none oe) (hd : oe.data = .fields vs) (na : H a = none) (n0 : X.s_0.heap.get? a = none) (nL : a ≠ X.env.locals) (np : ∀ p ∈ X.pn ++ pins, p.1 ≠ a) :
    Inv X pins σ (upd H a (ExK cls a)) s := by
  have old : ∀ {b : Addr} {u : HO}, H b = some u → b ≠ a := fun {b u} e z => by rw [z, na] at e; cases e
  have old0 : ∀ {b : Addr} {o : Obj}, X.s_0.heap.get? b = some o → b ≠ a := fun {b o} e z => by rw [z, n0] at e; cases e
  refine ⟨I.ok, I.os, I.bare, ⟨I.base.keep, I.base.slot, fun b o e n hx => ?_, I.base.there, fun b xs q => ?_, fun b o u q => ?_, fun b ps q => ?_⟩, I.loc, I.cell, ?_, fun y c e => ?_, fun p hp => ?_, ?_, I.len⟩
  · rw [upd_ne (old0 e)]
    exact I.base.free b o e n hx
  · have h1 := I.base.tups b xs q
    rw [upd_ne (old h1)]
    exact h1
  · have h1 := I.base.frzs b o u q
    rw [upd_ne (old h1)]
    exact h1
  · obtain ⟨m, h1⟩ := I.base.tbls b ps q
    exact ⟨m, by rw [upd_ne (old h1)]; exact h1⟩
  · rw [upd_ne (Ne.symm nL)]
    exact I.free
  · have h1 := I.freeC y c e
    rw [upd_ne]
    · exact h1
    · rintro rfl
      obtain ⟨v, o, ho, hv⟩ := I.cell y c e
      rw [ha] at ho
      cases ho
      rw [hd] at hv
      cases hv
  · obtain ⟨h1, h2, h3⟩ := I.pin p hp
    exact ⟨h1, by rw [upd_ne (np p hp)]; exact h2, h3⟩
  · exact HOk.laidN I.hok (h' := s.heap) (fun _ _ q => q) na ⟨⟨oe, vs, ha, hz, hd⟩, ⟨oe, ha⟩, fun h1 h2 ⟨o, v, q, r⟩ k => ⟨o, v, k o q, r⟩⟩
end
/-- what 'except x as n: y = n' wishes: slot i is n's, slot j is y's -/
def wAsV (K : PySem.W.Frag) (c : Value) (i j : Nat) (Wout : WX) (D : Ends) : WX := fun cls d σ H =>
  ∃ b, PySem.W.exmOne K cls c = some b ∧ (b = true → d = none ∧ ∀ a, H a = none → D.nx (((σ.set i (some (.ref a))).set j (some (.ref a))).set i none) (upd H a (ExK cls a))) ∧ (b = false → Wout cls d σ H)
def tTryV (K : PySem.W.Frag) (c : Value) (i j : Nat) (Wout : WX) (tb : WX → TS) : TS := fun D σ H => tb (wAsV K c i j Wout D) D σ H
section
variable {X : Cx} {x n y : Str} {c : Value} {i j : Nat} {body : List Stmt} {np pos pos' p1 p2 p3 : Pos} {tb : WX → TS} {Wout : WX}
theorem ps_try_hold (hs : X.stack = X.env :: X.outer) (hf : X.env.frame = some X.env.locals) (hex : X.ex = []) (hN : X.N.Nodup) (hi : X.N[i]? = some n) (hln : X.env.kindOf n = some .local) (hj : X.N[j]? = some y) (hlj : Loc X.env.scope y) (hc : Names X x c) (tk : Takes X Wout)
    (hb : ∀ (W : WX) (pn : List (Addr × Obj)) (xe : Value → Shared → Prop), Takes (X.tr pn xe) W → PassesOwn (model X.prog X.w) X.A X.env xe → PSs (X.tr pn xe) body (tb W))
    (hset : ∀ (a : Addr) (pn : List (Addr × Obj)), PSs (X.suite a pn) [.Assign [.Name y p1] (.Name n p2) p3] (tAsg (tVar i) (gName j))) :
    PS X (.Try body [.ExceptHandler (some (.Name x np)) (some n) [.Assign [.Name y p1] (.Name n p2) p3] pos'] [] [] pos) (tTryV X.K c i j Wout tb) := by
  refine ⟨fun pins s σ H D I h => ?_⟩
  have ok := I.ok
  have frm : X.A.frames = some (X.env :: X.outer) := by rw [ok.frames, hs]
  have hloc : Loc X.env.scope n := .inl hln
  refine wpAny_Try_except ?_
  have run := (hb (wAsV X.K c i j Wout D) (X.pn ++ pins) (fun e s₁ => wpAny (model X.prog X.w) X.A (noteFrame e X.env) (fun _ s₂ => wpAny (model X.prog X.w) X.A (setFlight e none) (fun _ s₃ =>
    wpAny (model X.prog X.w) X.A (handleBy e X.env [.ExceptHandler (some (.Name x np)) (some n) [.Assign [.Name y p1] (.Name n p2) p3] pos']) (SP X pins D) X.xe s₃) X.xe s₂) X.xe s₁) (fun u s' xx => ?_) PassesOwn.looking).run [] s σ H D (I.toTry _) h
  · refine wpAny_mono run (fun f s1 hsp => ?_) fun e s1 he => he
    cases f with
    | next => obtain ⟨σ', H', J, q⟩ := hsp; exact wpAny_execs_nil ⟨σ', H', J.ofTry ok, q⟩
    | brk => obtain ⟨σ', H', J, q⟩ := hsp; exact ⟨σ', H', J.ofTry ok, q⟩
    | cont => obtain ⟨σ', H', J, q⟩ := hsp; exact ⟨σ', H', J.ofTry ok, q⟩
    | ret u => obtain ⟨v, σ', H', J, r, q⟩ := hsp; exact ⟨v, σ', H', J.ofTry ok, r, q⟩
  · obtain ⟨a, B, sI, pins', σ', H', cls, d, rfl, J', nb, up, sky, na, os, ag, b, hb1, hyes, hno⟩ := xx
    have J : Inv X pins σ' H' sI := J'.ofTry ok
    rw [show (X.tr (X.pn ++ pins) _).stack = X.stack from rfl, hs] at sky
    show wpAny (model X.prog X.w) X.A (noteFrame (.ref a) X.env) _ _ _
    refine Sky.land Zc.steady frm hf sky fun h3 fl3 up3 => ?_
    have J3 : Inv X pins σ' H' { s' with heap := h3 } := J.landed nb fl3.1 (up.trans up3) os ag
    obtain ⟨oe3, vs3, he3, hz3, hd3⟩ := fl3.there
    have nfr : a ∉ frs (X.env :: X.outer) := fun hm => by
      obtain ⟨_, o', e', hnf⟩ := fl3.2.2.1.mem hm
      rw [he3] at e'
      cases e'
      exact hnf _ hd3
    have nL : a ≠ X.env.locals := fun z => nfr (List.mem_filterMap.mpr ⟨X.env, List.mem_cons_self, by rw [hf, z]⟩)
    have nF : a ∉ X.fs := fun hm => by
      obtain ⟨e, he, q⟩ := List.mem_filterMap.mp hm
      exact nfr (List.mem_filterMap.mpr ⟨e, List.mem_cons_of_mem _ he, q⟩)
    have nI : sI.heap.get? a = none := by
      cases q : sI.heap.get? a with
      | none => rfl
      | some o =>
        have h1 := nb a o q (by show a ∉ frs X.stack; rw [hs]; exact nfr)
        rw [fl3.2.1] at h1
        cases h1
    have n0 : X.s_0.heap.get? a = none := by
      cases q : X.s_0.heap.get? a with
      | none => rfl
      | some o =>
        obtain ⟨o', h1⟩ := J.base.there a o q (by rw [hex]; exact fun z => nomatch z)
        rw [nI] at h1
        cases h1
    have npn : ∀ p ∈ X.pn ++ pins, p.1 ≠ a := fun p hp z => by
      have h1 := (J.pin p hp).1
      rw [z, nI] at h1
      cases h1
    have S3 := J3.suite he3 hd3 na nL nF
    refine wpAny_handleBy_cons (codeAny_handlers_test ?_) (by intro q; cases q)
    have LT : PySem.W.Looks (model X.prog X.w) h3 (typeOf (.ref a)) cls := fun A Q E s k q => wpAny_typeOf_ref (k _ _ he3) (by rw [hz3.1]; exact q)
    have LM := PySem.W.exm_one (M := model X.prog X.w) (J3.kIn) LT hb1
    have test : ∀ {Q : Value → Shared → Prop} {E : Value → Shared → Prop}, Q c { s' with heap := h3 } → wpAny (model X.prog X.w) (X.A.mark (some (.ref a))) (eval (.Name x np) X.env) Q E { s' with heap := h3 } := fun {Q E} q => by
      obtain ⟨hg, hdbg, hm | ⟨hm, hv, hnn⟩⟩ := hc
      · exact ld_glob (X := X.suite a ((a, oe3) :: (X.pn ++ pins))) S3 hg hm q hdbg
      · exact ld_blt (X := X.suite a ((a, oe3) :: (X.pn ++ pins))) S3 hg hm hv q hnn hdbg
    refine test (LM.here ?_)
    cases b with
    | true =>
      obtain ⟨rfl, hgo⟩ := hyes rfl
      refine codeAny_handlers_suite_as ?_
      refine HandSPX.lands_againZ fl3 fun h4 fl4 up4 => ?_
      have J4 : Inv X pins σ' H' { s' with heap := h4 } := J.landed nb fl4.1 ((up.trans up3).trans up4) os ag
      obtain ⟨oe4, vs4, he4, hz4, hd4⟩ := fl4.there
      have S4 := J4.suite he4 hd4 na nL nF
      refine store_ok (X := X.suite a ((a, oe4) :: (X.pn ++ pins))) (v := .ref a) S4 hN hi hloc rfl (fun s5 S5 => ?_) (.inr hln)
      have li : i < σ'.length := by rw [S4.len]; exact (List.getElem?_eq_some_iff.mp hi).1
      have go := (hset a ((a, oe4) :: (X.pn ++ pins))).run [] s5 _ H' { nx := fun σ6 H6 => σ6 = (σ'.set i (some (.ref a))).set j (some (.ref a)) ∧ H6 = H', rt := fun _ _ => False, bk := fun _ _ => False, ct := fun _ _ => False } S5 ⟨.ref a, by rw [List.getElem?_set_self li], rfl, rfl⟩
      refine wpAny_mono go (fun f s6 hsp => ?_) fun _ _ z => False.elim z
      cases f with
      | next =>
        obtain ⟨σ6, H6, S6, rfl, rfl⟩ := hsp
        have h6 := S6.pin (a, oe4) (List.mem_append_left _ (List.mem_cons_self ..))
        have J6 := Inv.hold (S6.unsuite ok) h6.1 hz4 hd4 na n0 nL npn
        exact gone_ok J6 hN hi hln fun s7 J7 => ⟨_, _, J7, hgo a na⟩
      | brk => obtain ⟨_, _, _, z⟩ := hsp; exact z.elim
      | cont => obtain ⟨_, _, _, z⟩ := hsp; exact z.elim
      | ret u => obtain ⟨_, _, _, _, _, z⟩ := hsp; exact z.elim
    | false =>
      show wpAny _ X.A (handleBy (.ref a) X.env []) _ _ _
      refine wpAny_handleBy_nil ?_
      obtain ⟨k1, k2, k3, oe, vs, T, oT, ts', he, hz, hd, h1, hr⟩ := id fl3
      unfold PySem.passOn
      refine wpAny_bind (wpAny_field he hd h1 ?_)
      rw [if_neg (show ¬ ((Value.ref T == Value.none) = true) from by simp)]
      have fin : wpAny (model X.prog X.w) X.A (setFlight (.ref a) X.env.frame) (fun _ s4 => wpAny (model X.prog X.w) X.A (throw (.ref a) : Sem Flow) (SP X pins D) X.xe s4) X.xe { s' with heap := h3 } := by
        rw [hf]
        refine HandSPX.setFlight_upZ fl3 fun h4 hh4 up4 => wpAny_throw (tk _ _ ?_)
        exact ⟨a, B, sI, pins, σ', H', cls, d, rfl, J, nb, (up.trans up3).trans up4, .inr (.inr (by rw [hs]; exact hh4)), na, os, ag, hno rfl⟩
      first
        | exact wpAny_bind (wpAny_pure (wpAny_bind fin))
        | exact wpAny_bind fin
end
/-- isinstance(e, c) of an error that is held -/
def rIsK (K : PySem.W.Frag) : List V → Hp → VK → Prop := fun xs H Q => ∃ (a D : Addr) (c : V) (u : Value) (b : Bool), xs = [.ref a, c] ∧ H a = some (ExK (.ref D) a) ∧ ExcC K D ∧ ClsV c u ∧ PySem.W.kitOne K (.ref D) u = some b ∧ Q (.bl b) H
theorem call_isK {X : Cx} : CallR X (.builtin "isinstance") (rIsK X.K) := by
  intro pins s σ H xs us Q I r h
  obtain ⟨a, D, c, u, b, rfl, hx, C, k, e, q⟩ := h
  obtain ⟨u1, u2, rfl, r1, r2⟩ := vals2 r
  have e2 := k.eq r2
  subst e2
  cases (show u1 = Value.ref a from r1)
  obtain ⟨⟨oe, vs, h1, h2, h3⟩, _⟩ := (show ObjOk X.prog X.w H s.heap a (ExK (.ref D) a) from I.hok a _ hx)
  have J : PySem.W.InstAt s.heap a oe D none := by
    obtain ⟨oc, od, oda, osl⟩ := oe
    obtain ⟨z1, z2⟩ := h2
    dsimp only at z1 z2 h3
    subst z1 z2 h3
    exact ⟨h1, rfl, rfl, trivial⟩
  exact PySem.W.kia_one (PySem.W.handS_kitx_exc C.hg C.hk C.hs C.hd C.ha C.hn C.ht C.hm) I.kIn J e (fun z => nomatch z) fun tk => ⟨.bl b, H, I.tok tk, rfl, q⟩
end My

set_option Elab.async false
set_option linter.all false
set_option maxRecDepth 100000
set_option maxHeartbeats 1000000
/-! ### instances made and methods called where what is raised is wished for at the caller's slots -/
namespace My
open PySem PySem.Spec PyProof.Rows L2
section
variable {X : Cx} {CX : CXT} {k n : Nat} {f C : Addr} {fd : FuncData} {ps ks : List Str} {sp : Sp} {dvs : List V} {ds : List Value} {E : L2.St → XK} {x m : Str} {p pos apos : Pos} {e o : Expr} {es : List Expr} {kws : List Keyword} {ta : TE} {t tk : TA}
variable {g : List Value → List Value → List Value} {gV : List V → List V → List V}
def tMakeS (C : Addr) (sp : Sp) (dvs : List V) (E : L2.St → XK) (t : TA) : TE := fun σ H Q => tMake C sp dvs (E σ) t σ H Q
def tMakeKS (C : Addr) (sp : Sp) (gV : List V → List V → List V) (E : L2.St → XK) (tk : TA) : TE := fun σ H Q => tk σ H fun zs H2 => ∀ x dx, H2 x = none → H2 dx = none → dx ≠ x →
  sp (gV [.ref x] zs) (upd (upd H2 dx (.own x)) x (.ins C dx [])) (fun v H3 => v = .non ∧ Q (.ref x) H3) (E σ)
def tMethS (C : Addr) (m : Str) (sp : Sp) (dvs : List V) (E : L2.St → XK) (ta : TE) (t : TA) : TE := fun σ H Q => tMeth C m sp dvs (E σ) ta t σ H Q
def tMethK (C : Addr) (m : Str) (sp : Sp) (gV : List V → List V → List V) (E : L2.St → XK) (ta : TE) (tk : TA) : TE := fun σ H Q => ta σ H fun x H1 => ∃ a dx fs, x = .ref a ∧ H1 a = some (.ins C dx fs) ∧ fs.lookup m = none ∧ tk σ H1 fun zs H2 => sp (gV [x] zs) H2 Q (E σ)
theorem passAt1 {E1 : XK} (h : Passes CX X E1) (σ : L2.St) : PassesAt CX X σ E1 := fun pins H s e s' I c => h pins σ H s e s' I c
/-- a new instance, with the arguments as they are bound -/
theorem made_run {pins : List (Addr × Obj)} {σ : L2.St} {H : Hp} {s : Shared} {Q : VK} {us : List Value} {kw : List (Str × Value)} {as : List Value → List Value} {vs : V → List V} (M : Mk X.K C f) (F : FnOk X.prog X.w X.K X.mg X.base CX k f fd ps sp) (hr : Room (k + 1) X.A) (hx : PassesAt CX X σ (E σ)) (I : Inv X pins σ H s)
    (hb : ∀ (s' : Shared) (a : Addr), X.K.In s'.heap → Vals (vs (.ref a)) (as [.ref a]) → (vs (.ref a)).length = ps.length → BindsTo s' fd ⟨Value.ref a :: us, kw⟩ (ps.zip (as [.ref a]))) (hv : ∀ a, Vals (vs (.ref a)) (as [.ref a]))
    (h : ∀ x dx, H x = none → H dx = none → dx ≠ x → sp (vs (.ref x)) (upd (upd H dx (.own x)) x (.ins C dx [])) (fun v H2 => v = .non ∧ Q (.ref x) H2) (E σ)) :
    wpAny (model X.prog X.w) X.A (call (.ref C) us kw) (EP X pins σ Q) X.xe s := by
  have hq := h (s.heap.objs.size + 1) s.heap.objs.size (I.hok.fresh (Nat.le_succ _)) (I.hok.fresh (Nat.le_refl _)) (Nat.ne_of_lt (Nat.lt_succ_self _))
  have J := Inv.made (C := C) I
  have b := hb _ (s.heap.objs.size + 1) J.kIn (hv _) (F.len _ _ _ _ hq)
  have run := F.run _ X.stack _ _ _ _ _ _ (E σ) (hr.make C us kw) (J.env0.make C us kw) b (hv _) hq
  refine wpAny_call (make_map (f := f) I.kIn M.makes M.init (beq_iff_eq.mp M.fn) (codeAny_mono run fun r s' hq' => ?_))
  cases r with
  | error e => exact hx pins _ _ e s' J hq'
  | ok fl =>
    cases fl with
    | ret u =>
      obtain ⟨v, H', J3, rv, ev, q3⟩ := J.after hq'
      subst ev
      exact ⟨rv, ⟨V.ref (s.heap.objs.size + 1), H', J3, rfl, q3⟩⟩
    | next => exact False.elim hq'
    | brk => exact False.elim hq'
    | cont => exact False.elim hq'
theorem pe_makeS (M : Mk X.K C f) (F : FnOk X.prog X.w X.K X.mg X.base CX k f fd ps sp) (hr : Room (k + 1) X.A) (hg : Gl X x) (hm : X.mg x = some (.ref C)) (hb : Binds X.K fd ps ds) (hd : Vals dvs ds) (hx : ∀ σ, PassesAt CX X σ (E σ))
    (ha : PA X (e :: es) t) (hdb : (x == ("__debug__" : Str)) = false := by decide) (he : starEach (e :: es) X.env = (false, eval e X.env) :: starEach es X.env := by rfl) (hpl : (backTo pos (starEach es X.env)).any (·.1) = false := by rfl) :
    PE X (.Call (.Name x p) (e :: es) [] pos) (tMakeS C sp dvs E t) := by
  refine ⟨fun pins s σ H Q I h => ?_⟩
  refine wpAny_Call_Name_kw (ld_glob I hg hm ?_ hdb)
  refine PySem.W.callWith_K (h₀ := X.base) I.ok.mod.kin M.kp (thn (ha.run pos pins s σ H _ I h) fun us s1 ⟨vs, H1, I1, r, q⟩ => ⟨I1.kIn, ?_⟩) he hpl
  exact made_run (us := us) (kw := []) (as := fun a => a ++ (us ++ ds)) (vs := fun a => a :: (vs ++ dvs)) M F hr (hx σ) I1
    (fun s' a K hv hl => hb s' (Value.ref a :: us) K (by have e1 := hv.length; rw [hl] at e1; exact e1.symm)) (fun a => .cons rfl (r.append hd)) q
theorem pe_makeKS (M : Mk X.K C f) (F : FnOk X.prog X.w X.K X.mg X.base CX k f fd ps sp) (hr : Room (k + 1) X.A) (hg : Gl X x) (hm : X.mg x = some (.ref C)) (hb : KBinds X.K fd ps ks g gV) (hx : ∀ σ, PassesAt CX X σ (E σ)) (hkw : PK X kws tk)
    (hall : (backToKw pos (keywordEach kws X.env)).all (·.1.isSome) = true := by rfl) (hks : (backToKw pos (keywordEach kws X.env)).filterMap (·.1) = ks := by rfl) (hdb : (x == ("__debug__" : Str)) = false := by decide)
    (hpl : ((backTo pos (starEach [] X.env)).any (·.1) || (backToKw pos (keywordEach kws X.env)).any (·.1.isNone)) = false := by rfl) :
    PE X (.Call (.Name x p) [] kws pos) (tMakeKS C sp gV E tk) := by
  refine ⟨fun pins s σ H Q I h => ?_⟩
  refine wpAny_Call_Name_kw (ld_glob I hg hm ?_ hdb)
  refine PySem.W.callWith_KW0 (h₀ := X.base) I.ok.mod.kin M.kp hall ?_ hpl
  refine thn (hkw.run pos pins s σ H _ I h) fun ws s2 ⟨zs, H2, I2, rz, q2⟩ => ⟨I2.kIn, ?_⟩
  rw [hks]
  refine made_run (us := []) (kw := ks.zip ws) (as := fun a => g a ws) (vs := fun a => gV [a] zs) M F hr (hx σ) I2 (fun s' a K hv hl => ?_) (fun a => hb.rel (.cons rfl .nil) rz) q2
  exact hb.to s' [.ref a] ws K (by rw [← hv.length, hl])
theorem pe_methS1 {pl : Sem Bool} (he : PE X o ta) (c : Cls X.K C) (hm : Meth X.K C m f) (F : FnOk X.prog X.w X.K X.mg X.base CX k f fd ps sp) (hr : Room k X.A) (hb : Binds X.K fd ps ds) (hd : Vals dvs ds) (hx : ∀ σ, PassesAt CX X σ (E σ)) (ha : PA X (e :: es) t)
    (hst : starEach (e :: es) X.env = (false, eval e X.env) :: starEach es X.env := by rfl) (hpl : (backTo pos (starEach es X.env)).any (·.1) = false := by rfl)
    (ht : eval (.Call (.Attribute o m apos) (e :: es) [] pos) X.env = (do
      let ov ← eval o X.env
      standAt apos.atName
      let (f, first) ← holding [ov] (getMethod ov m pl)
      callWith pos f first (backTo pos (starEach (e :: es) X.env)) (backToKw pos (keywordEach [] X.env))) := by rfl) :
    PE X (.Call (.Attribute o m apos) (e :: es) [] pos) (tMethS C m sp dvs E ta t) := by
  refine ⟨fun pins s σ H Q I h => ?_⟩
  refine PySem.W.methodCall_KW (pl := pl) (thn (he.run pins s σ H _ I h) fun u s1 ⟨y, H1, I1, ry, a, dx, fs, ey, ea, l, q⟩ => ?_) ht
  subst ey
  obtain rfl : u = Value.ref a := ry
  refine getmeth_ok I1 ea c hm l ?_
  refine PySem.W.callWith_K (first := [.ref a]) (h₀ := X.base) I.ok.mod.kin hm.kp (thn (ha.run pos pins s1 σ H1 _ I1 q) fun us s2 ⟨vs, H2, I2, r, q2⟩ => ⟨I2.kIn, ?_⟩) hst hpl
  exact run_fnSD (us := .ref a :: us) (vs := .ref a :: vs) F hr hb hd (hx σ) I2 (.cons rfl r) q2
theorem pe_methS0 {pl : Sem Bool} (he : PE X o ta) (c : Cls X.K C) (hm : Meth X.K C m f) (F : FnOk X.prog X.w X.K X.mg X.base CX k f fd ps sp) (hr : Room k X.A) (hb : Binds X.K fd ps ds) (hd : Vals dvs ds) (hx : ∀ σ, PassesAt CX X σ (E σ))
    (ht : eval (.Call (.Attribute o m apos) [] [] pos) X.env = (do
      let ov ← eval o X.env
      standAt apos.atName
      let (f, first) ← holding [ov] (getMethod ov m pl)
      callWith pos f first (backTo pos (starEach [] X.env)) (backToKw pos (keywordEach [] X.env))) := by rfl) :
    PE X (.Call (.Attribute o m apos) [] [] pos) (tMethS C m sp dvs E ta tNil) := by
  refine ⟨fun pins s σ H Q I h => ?_⟩
  refine PySem.W.methodCall_KW (pl := pl) (thn (he.run pins s σ H _ I h) fun u s1 ⟨y, H1, I1, ry, a, dx, fs, ey, ea, l, q⟩ => ?_) ht
  subst ey
  obtain rfl : u = Value.ref a := ry
  refine getmeth_ok I1 ea c hm l ?_
  exact PySem.W.callWith_K0 (first := [.ref a]) I1.kIn hm.kp (run_fnSD (us := [.ref a]) (vs := [.ref a]) F hr hb hd (hx σ) I1 (.cons rfl .nil) q)
/-- o.m(k = v, ..) -/
theorem pe_methK {pl : Sem Bool} (he : PE X o ta) (c : Cls X.K C) (hm : Meth X.K C m f) (F : FnOk X.prog X.w X.K X.mg X.base CX k f fd ps sp) (hr : Room k X.A) (hb : KBinds X.K fd ps ks g gV) (hx : ∀ σ, PassesAt CX X σ (E σ)) (hkw : PK X kws tk)
    (hall : (backToKw pos (keywordEach kws X.env)).all (·.1.isSome) = true := by rfl) (hks : (backToKw pos (keywordEach kws X.env)).filterMap (·.1) = ks := by rfl)
    (hpl : ((backTo pos (starEach [] X.env)).any (·.1) || (backToKw pos (keywordEach kws X.env)).any (·.1.isNone)) = false := by rfl)
    (ht : eval (.Call (.Attribute o m apos) [] kws pos) X.env = (do
      let ov ← eval o X.env
      standAt apos.atName
      let (f, first) ← holding [ov] (getMethod ov m pl)
      callWith pos f first (backTo pos (starEach [] X.env)) (backToKw pos (keywordEach kws X.env))) := by rfl) :
    PE X (.Call (.Attribute o m apos) [] kws pos) (tMethK C m sp gV E ta tk) := by
  refine ⟨fun pins s σ H Q I h => ?_⟩
  refine PySem.W.methodCall_KW (pl := pl) (thn (he.run pins s σ H _ I h) fun u s1 ⟨y, H1, I1, ry, a, dx, fs, ey, ea, l, q⟩ => ?_) ht
  subst ey
  obtain rfl : u = Value.ref a := ry
  refine getmeth_ok I1 ea c hm l ?_
  refine PySem.W.callWith_KW0 (first := [.ref a]) (h₀ := X.base) I.ok.mod.kin hm.kp hall ?_ hpl
  refine thn (hkw.run pos pins s1 σ H1 _ I1 q) fun ws s2 ⟨zs, H2, I2, rz, q2⟩ => ⟨I2.kIn, ?_⟩
  rw [hks]
  have r2 := hb.rel (vs := [V.ref a]) (us := [Value.ref a]) (.cons rfl .nil) rz
  have hl : (g [Value.ref a] ws).length = ps.length := by rw [← r2.length]; exact F.len _ _ _ _ q2
  refine wpAny_call (codeAny_mono (F.run X.A X.stack s2 H2 ⟨[.ref a] ++ [], ks.zip ws⟩ (g [.ref a] ws) (gV [.ref a] zs) Q (E σ) hr I2.env0 (hb.to s2 [.ref a] ws I2.kIn hl) r2 q2) fun r s' hq => ?_)
  cases r with
  | error e => exact hx σ pins H2 s2 e s' I2 hq
  | ok fl =>
    cases fl with
    | ret u => exact I2.after hq
    | next => exact False.elim hq
    | brk => exact False.elim hq
    | cont => exact False.elim hq
end
section
variable {X : Cx} {σ : L2.St} {H : Hp} {Q : VK} {ta : TE} {t tk : TA} {C : Addr} {m f : Str} {sp : Sp} {dvs : List V} {E : L2.St → XK} {E1 : XK} {gV : List V → List V → List V} {K : PySem.W.Frag}
theorem x_makeS (h : t σ H fun vs H1 => ∀ x dx, H1 x = none → H1 dx = none → dx ≠ x → sp (.ref x :: (vs ++ dvs)) (upd (upd H1 dx (.own x)) x (.ins C dx [])) (fun v H2 => v = .non ∧ Q (.ref x) H2) (E σ)) : tMakeS C sp dvs E t σ H Q := h
theorem x_make (h : t σ H fun vs H1 => ∀ x dx, H1 x = none → H1 dx = none → dx ≠ x → sp (.ref x :: (vs ++ dvs)) (upd (upd H1 dx (.own x)) x (.ins C dx [])) (fun v H2 => v = .non ∧ Q (.ref x) H2) E1) : tMake C sp dvs E1 t σ H Q := h
theorem x_makeKS (h : tk σ H fun zs H2 => ∀ x dx, H2 x = none → H2 dx = none → dx ≠ x → sp (gV [.ref x] zs) (upd (upd H2 dx (.own x)) x (.ins C dx [])) (fun v H3 => v = .non ∧ Q (.ref x) H3) (E σ)) : tMakeKS C sp gV E tk σ H Q := h
theorem x_methS (h : ta σ H fun x H1 => ∃ a dx fs, x = .ref a ∧ H1 a = some (.ins C dx fs) ∧ fs.lookup m = none ∧ t σ H1 fun vs H2 => sp (x :: (vs ++ dvs)) H2 Q (E σ)) : tMethS C m sp dvs E ta t σ H Q := h
theorem x_meth (h : ta σ H fun x H1 => ∃ a dx fs, x = .ref a ∧ H1 a = some (.ins C dx fs) ∧ fs.lookup m = none ∧ t σ H1 fun vs H2 => sp (x :: (vs ++ dvs)) H2 Q E1) : tMeth C m sp dvs E1 ta t σ H Q := h
theorem x_methK (h : ta σ H fun x H1 => ∃ a dx fs, x = .ref a ∧ H1 a = some (.ins C dx fs) ∧ fs.lookup m = none ∧ tk σ H1 fun zs H2 => sp (gV [x] zs) H2 Q (E σ)) : tMethK C m sp gV E ta tk σ H Q := h
theorem x_fld (h : ta σ H fun x H1 => ∃ a C dx fs v, x = .ref a ∧ H1 a = some (.ins C dx fs) ∧ Cls K C ∧ NoAttr K C f ∧ fs.lookup f = some v ∧ Q v H1) : tFld K ta f σ H Q := h
end
end My

set_option Elab.async false
set_option linter.all false
set_option maxRecDepth 100000
set_option maxHeartbeats 1000000
/-! ### zip of a tuple and a list; reversed of a tuple; fields set -/
namespace My
open PySem PySem.Spec PyProof.Rows L2
def ItzM (K : PySem.W.Frag) (a b : Addr) : It where
  go := fun i H => ∃ xs ys x y, SqT K H a xs ∧ SqL K H b ys ∧ xs[i]? = some x ∧ ys[i]? = some y
  yld := fun i H v H' => ∃ T x y, v = .ref T ∧ H T = none ∧ H' = upd H T (.tup [x, y]) ∧ (∀ xs, SqT K H a xs → xs[i]? = some x) ∧ ∀ ys, SqL K H b ys → ys[i]? = some y
  stop := fun i H => ∃ xs ys, SqT K H a xs ∧ SqL K H b ys ∧ i ≤ xs.length ∧ i ≤ ys.length ∧ (i = xs.length ∨ i = ys.length)
theorem turn_zipM {P : Program} {w : World} {K : PySem.W.Frag} {elts : List Expr} {kk : Nat} {tpos : Pos} {a b z TI TO i1 i2 : Addr} (hz : ZipSep2 z TI TO i1 i2 [i1, a] [i2, b]) (h1 : a ≠ i1) (h2 : b ≠ i2) :
    Turn P w K (.Tuple elts kk tpos) (ItzM K a b) [z, TI, TO, i1, i2] z (fun i h => IsZip h z TI TO .none ∧ IsTupOf2 h TI (.ref i1) (.ref i2) ∧ (∃ x y, IsTupOf2 h TO x y) ∧ h.IsTupleIter i1 a i ∧ h.IsListIter i2 b i) where
  mem := by simp
  obj := fun i h st c hc => by
    obtain ⟨s1, s2, ⟨x, y, s3⟩, ⟨o4, e4, c4, d4⟩, ⟨o5, e5, c5, d5⟩⟩ := st
    have e' : c = z ∨ c = TI ∨ c = TO ∨ c = i1 ∨ c = i2 := by simpa using hc
    rcases e' with q | q | q | q | q
    · rw [q]; exact ⟨_, s1, fun v q => nomatch q⟩
    · rw [q]; exact ⟨_, s2, fun v q => nomatch q⟩
    · rw [q]; exact ⟨_, s3, fun v q => nomatch q⟩
    · rw [q]; exact ⟨_, e4, fun v q => by rw [d4] at q; cases q⟩
    · rw [q]; exact ⟨_, e5, fun v q => by rw [d5] at q; cases q⟩
  keep := fun i h h' st k => by
    obtain ⟨s1, s2, ⟨x, y, s3⟩, s4, s5⟩ := st
    exact ⟨k z (by simp) _ s1, k TI (by simp) _ s2, ⟨x, y, k TO (by simp) _ s3⟩, s4.at fun o q => k i1 (by simp) _ q, s5.at fun o q => k i2 (by simp) _ q⟩
  item := by
    intro X hP hw hK hc i pins s σ H E I hf st hg
    subst hP hw hK
    obtain ⟨s1, s2, ⟨a1, a2, s3⟩, s4, s5⟩ := st
    obtain ⟨xs, ys, x, y, hx, hy, ex, ey⟩ := hg
    obtain ⟨its, rx, px, _⟩ := I.tuple hx
    obtain ⟨jts, ry, py, _⟩ := I.list hy
    obtain ⟨u, eu, ru⟩ := rx.get ex
    obtain ⟨v, ev, rv⟩ := ry.get ey
    have px' : s.heap.IsTuple a its.toArray := px
    have py' : s.heap.IsList b jts.toArray := py.isList
    have l1 : i < its.toArray.size := by have := (List.getElem?_eq_some_iff.mp eu).1; simpa using this
    have l2 : i < jts.toArray.size := by have := (List.getElem?_eq_some_iff.mp ev).1; simpa using this
    have hzl : z < s.heap.objs.size := Heap.lt_size s1
    have lt : ∀ c ∈ [z, TI, TO, i1, i2], c < s.heap.objs.size := fun c hc => by
      obtain ⟨o4, e4, _⟩ := s4
      obtain ⟨o5, e5, _⟩ := s5
      have e' : c = z ∨ c = TI ∨ c = TO ∨ c = i1 ∨ c = i2 := by simpa using hc
      rcases e' with q | q | q | q | q <;> rw [q]
      · exact hzl
      · exact Heap.lt_size s2
      · exact Heap.lt_size s3
      · exact Heap.lt_size e4
      · exact Heap.lt_size e5
    refine wpAny_pyNext_zipD2_item hz (Draws.tuple (prog := X.prog) (w := X.w) (A := X.A.in1) (I.ok.hd hc) i1 a h1 its.toArray) (Draws.list (prog := X.prog) (w := X.w) (A := X.A.in1) (I.ok.hd hc) i2 b h2 jts.toArray) s1 s2 s3 ⟨s4, px'⟩ ⟨s5, py'⟩ l1 l2 fun x1 x2 h' tk hx1 hx2 ho hTO st1 st2 hT hsz hk => ?_
    have q1 : x1 = u := by
      have e1 : its.toArray[i]? = some u := by simpa using eu
      rw [e1] at hx1
      exact (Option.some.inj hx1).symm
    have q2 : x2 = v := by
      have e1 : jts.toArray[i]? = some v := by simpa using ev
      rw [e1] at hx2
      exact (Option.some.inj hx2).symm
    subst q1 q2
    refine ⟨_, rfl, wpAny_letOwnedTupleGo_zip (s := { s with heap := h', toks := tk }) ho fun h'' he' sb => ?_⟩
    have hT2 : IsTupOf2 h'' s.heap.objs.size x1 x2 := (sb.2 _ (Nat.ne_of_gt hzl)).trans hT
    have new : ObjOk X.prog X.w (upd H s.heap.objs.size (.tup [x, y])) h'' s.heap.objs.size (.tup [x, y]) :=
      ⟨by show 2 ≤ sizeLine; decide, [x1, x2], .cons ru (.cons rv .nil), ⟨_, hT2, rfl, _, rfl⟩⟩
    have I1 : Inv X pins σ (upd H s.heap.objs.size (.tup [x, y])) { s with heap := h'', toks := tk } :=
      I.turnedNew (ch := [z, TI, TO, i1, i2]) (fun c ob hb q => (sb.2 c (fun z => hb (by simp [z]))).trans (hk c ob (fun z => hb (by simp [z])) (fun z => hb (by simp [z])) (fun z => hb (by simp [z])) (fun z => hb (by simp [z])) q)) hf (Nat.le_refl _) new
    have TIk : IsTupOf2 h'' TI (.ref i1) (.ref i2) := (sb.2 _ hz.TIz).trans (hk TI _ hz.TIz hz.TITO hz.TIi1 hz.TIi2 s2)
    refine ⟨.ref s.heap.objs.size, _, I1, rfl, ⟨_, x, y, rfl, I.hok.fresh (Nat.le_refl _), rfl, fun ws hw => by rw [I.tuple_inj hw hx]; exact ex, fun ws hw => by rw [I.list_inj hw hy]; exact ey⟩, ⟨he', TIk, ⟨x1, x2, (sb.2 _ hz.TOz).trans hTO⟩, st1.1.at fun o q => (sb.2 i1 (fun e => hz.zf1 (by simp [e]))).trans q, st2.1.at fun o q => (sb.2 i2 (fun e => hz.zf2 (by simp [e]))).trans q⟩, fun c hb => ?_⟩
    rw [upd_ne (Nat.ne_of_lt (lt c hb))]
    exact (hf c hb).1
  done := by
    intro X hP hw hK hc i pins s σ H E I hf st hg
    subst hP hw hK
    obtain ⟨s1, s2, ⟨a1, a2, s3⟩, s4, s5⟩ := st
    obtain ⟨xs, ys, hx, hy, g1, g2, g3⟩ := hg
    obtain ⟨its, rx, px, _⟩ := I.tuple hx
    obtain ⟨jts, ry, py, _⟩ := I.list hy
    have px' : s.heap.IsTuple a its.toArray := px
    have py' : s.heap.IsList b jts.toArray := py.isList
    have l1 := rx.length
    have l2 := ry.length
    exact wpAny_pyNext_zipD2_end hz (Draws.tuple (prog := X.prog) (w := X.w) (A := X.A.in1) (I.ok.hd hc) i1 a h1 its.toArray) (Draws.list (prog := X.prog) (w := X.w) (A := X.A.in1) (I.ok.hd hc) i2 b h2 jts.toArray) s1 s2 s3 ⟨s4, px'⟩ ⟨s5, py'⟩ (by simp; omega) (by simp; omega) (by simp; omega) fun h' tk hk =>
      ⟨rfl, I.turnedL (ch := [z, TI, TO, i1, i2]) (fun c ob hb q => hk c ob (fun z => hb (by simp [z])) (fun z => hb (by simp [z])) (fun z => hb (by simp [z])) (fun z => hb (by simp [z])) q) hf⟩
  self := fun A i s Q E st h => wpAny_pyIter_zip st.1 h
def iZipM (K : PySem.W.Frag) (ta : TA) : TI := fun σ H R => ta σ H fun vs H1 => ∃ a b xs ys, vs = [.ref a, .ref b] ∧ SqT K H1 a xs ∧ SqL K H1 b ys ∧ R (ItzM K a b) H1
theorem pi_zipM {X : Cx} {e e2 : Expr} {ta : TA} {p pos tpos : Pos} {elts : List Expr} {kk : Nat} (hg : Gl X "zip") (hm : X.mg "zip" = none) (ha : PA X [e, e2] ta)
    (hs : starEach [e, e2] X.env = (false, eval e X.env) :: starEach [e2] X.env := by rfl) (hpl : (backTo pos (starEach [e2] X.env)).any (·.1) = false := by rfl) :
    PI X (.Tuple elts kk tpos) (.Call (.Name "zip" p) [e, e2] [] pos) (iZipM X.K ta) := by
  refine ⟨fun pins s σ H R I h => ?_⟩
  refine Call_ (ld_blt I hg hm boot_zip (PyProof.Rows.callWith_type1 (thn (ha.run pos pins s σ H _ I h) fun us s1 ⟨vs, H1, I1, r1, q1⟩ => ?_) hs hpl))
  obtain ⟨a, b, xs, ys, e, hx, hy, q⟩ := q1
  subst e
  obtain ⟨u, v, rfl, ru, rv⟩ := L2.vals2 r1
  cases (show u = Value.ref a from ru)
  cases (show v = Value.ref b from rv)
  obtain ⟨its, rx, px, _⟩ := I1.tuple hx
  obtain ⟨jts, ry, py, _⟩ := I1.list hy
  have px' : s1.heap.IsTuple a its.toArray := px
  have py' : s1.heap.IsList b jts.toArray := py.isList
  have la : a < s1.heap.objs.size := by obtain ⟨o, e, _⟩ := px'; exact Heap.lt_size e
  have lb : b < s1.heap.objs.size := by obtain ⟨o, e, _⟩ := py'; exact Heap.lt_size e
  refine zip_begins2 (begins_tuple a its.toArray) (begins_list b jts.toArray) px' py' fun h' hz hTI hTO h1 h2 hsz hk => ?_
  refine wpAny_pyIter_zip hz ?_
  have I3 : Inv X pins σ H1 { s1 with heap := h' } := I1.kept (t' := s1.toks) hk
  refine ⟨_, [_, _, _, _, _], _, _, H1, rfl, I3, turn_zipM (zip_sep2 (N := s1.heap.objs.size) (fp1 := [a]) (fp2 := [b]) (fun c hc => by rw [List.mem_singleton.mp hc]; exact la) (fun c hc => by rw [List.mem_singleton.mp hc]; exact lb)) (Nat.ne_of_lt la) (Nat.ne_of_lt (Nat.lt_succ_of_lt lb)), ⟨hz, hTI, ⟨_, _, hTO⟩, ⟨_, h1, rfl, rfl⟩, ⟨_, h2, rfl, rfl⟩⟩, fun c hc => ?_, q⟩
  have hle : s1.heap.objs.size ≤ c := by
    have e' : c = s1.heap.objs.size + 4 ∨ c = s1.heap.objs.size + 2 ∨ c = s1.heap.objs.size + 3 ∨ c = s1.heap.objs.size ∨ c = s1.heap.objs.size + 1 := by simpa using hc
    rcases e' with q | q | q | q | q <;> rw [q]
    · exact Nat.le_add_right _ _
    · exact Nat.le_add_right _ _
    · exact Nat.le_add_right _ _
    · exact Nat.le_refl _
    · exact Nat.le_add_right _ _
  have := I1.fpOk (H' := H1) hle (I1.hok.fresh hle)
  exact this
section
variable {K : PySem.W.Frag} {g : TG} {p : TS} {t : TT} {te ta tv : TE} {ws : List Nat} {σ : L2.St} {Q rt : VK} {H : Hp} {tr : TA} {n b k : L2.St → Hp → Prop} {f : Str}
theorem s_fld (h : tv σ H fun y H1 => ta σ H1 fun x H2 => ∃ a C dx fs, x = .ref a ∧ H2 a = some (.ins C dx fs) ∧ Cls K C ∧ NoAttr K C f ∧ fs.length < 1000 ∧ n σ (upd H2 a (.ins C dx (putF f y fs)))) : sFld K ta tv f ⟨n, rt, b, k⟩ σ H := h
/-! reversed of a tuple -/
def ForRT (K : PySem.W.Frag) (g : TG) (tb : TS) (n : L2.St → Hp → Prop) (rt : VK) (σ : L2.St) (x : V) (H : Hp) : Prop := ∃ (a : Addr) (xs : List V), x = .ref a ∧ ((SqL K H a xs ∧ LoopW (Itv K a xs.length) g tb n rt σ H) ∨ (SqT K H a xs ∧ LoopW (RT.ItvT K a xs.length) g tb n rt σ H))
theorem f_rt (h : te σ H fun x H1 => ForRT K g p n rt σ x H1) : tFor (RT.iRevA K te) g p ⟨n, rt, b, k⟩ σ H := h
theorem forRT_mk {a : Addr} {xs : List V} (hx : SqT K H a xs) (Pv : Nat → L2.St → Hp → Prop) (h0 : Pv 0 σ H) (hq : ∀ i σ H, Pv i σ H → SqT K H a xs)
    (hs : ∀ (i : Nat) (x : V) (σ : L2.St) (H : Hp), i < xs.length → xs[xs.length - 1 - i]? = some x → Pv i σ H → g x σ H fun σ2 H2 => p ⟨Pv (i + 1), rt, n, Pv (i + 1)⟩ σ2 H2)
    (hd : ∀ σ H, Pv xs.length σ H → n σ H) : ForRT K g p n rt σ (.ref a) H := ⟨a, xs, rfl, .inr ⟨hx, RT.for_ItvT (D := ⟨n, rt, n, n⟩) Pv h0 hq hs hd⟩⟩
/-! zip of a tuple and a list -/
def ForZM (K : PySem.W.Frag) (g : TG) (tb : TS) (n : L2.St → Hp → Prop) (rt : VK) (σ : L2.St) (vs : List V) (H : Hp) : Prop := ∃ a b xs ys, vs = [.ref a, .ref b] ∧ SqT K H a xs ∧ SqL K H b ys ∧ LoopW (ItzM K a b) g tb n rt σ H
theorem f_zm (h : tr σ H fun vs H1 => ForZM K g p n rt σ vs H1) : tFor (iZipM K tr) g p ⟨n, rt, b, k⟩ σ H := h
theorem forZM_mk {a b' : Addr} {xs ys : List V} (hx : SqT K H a xs) (hy : SqL K H b' ys) (hl : xs.length = ys.length) (Pv : Nat → L2.St → Hp → Prop) (h0 : Pv 0 σ H) (hq : ∀ i σ H, Pv i σ H → SqT K H a xs ∧ SqL K H b' ys)
    (hs : ∀ (i : Nat) (x y : V) (T : Addr) (σ : L2.St) (H : Hp), xs[i]? = some x → ys[i]? = some y → Pv i σ H → H T = none → g (.ref T) σ (upd H T (.tup [x, y])) fun σ2 H2 => p ⟨Pv (i + 1), rt, n, Pv (i + 1)⟩ σ2 H2)
    (hd : ∀ σ H, Pv xs.length σ H → n σ H) : ForZM K g p n rt σ [.ref a, .ref b'] H := by
  refine ⟨a, b', xs, ys, rfl, hx, hy, fun i m σ' H' => m = xs.length - i ∧ i ≤ xs.length ∧ Pv i σ' H', ⟨xs.length, by simp, Nat.zero_le _, h0⟩, ?_⟩
  rintro i m σ' H' ⟨rfl, hi, pp⟩
  obtain ⟨qx, qy⟩ := hq i σ' H' pp
  by_cases hlt : i < xs.length
  · refine .inr ⟨⟨xs, ys, xs[i], ys[i], qx, qy, List.getElem?_eq_getElem hlt, List.getElem?_eq_getElem (by omega)⟩, Pv (i + 1), fun σ2 H2 p2 => ⟨xs.length - (i + 1), by omega, rfl, hlt, p2⟩, fun v H2 y => ?_⟩
    obtain ⟨T, x, y, rfl, hT, rfl, e1, e2⟩ := y
    exact hs i x y T σ' H' (e1 xs qx) (e2 ys qy) pp hT
  · have e : i = xs.length := by omega
    subst e
    exact .inl ⟨⟨xs, ys, qx, qy, Nat.le_refl _, by omega, .inl rfl⟩, hd σ' H' pp⟩
def LcZM (K : PySem.W.Frag) (g : TG) (tt : TT) (te : TE) (ws : List Nat) (σ : L2.St) (Q : VK) (vs : List V) (H : Hp) : Prop := ∃ a b xs ys, vs = [.ref a, .ref b] ∧ SqT K H a xs ∧ SqL K H b ys ∧ LcW (ItzM K a b) g tt te ws σ Q H
theorem c_zm (h : tr σ H fun vs H1 => LcZM K g t te ws σ Q vs H1) : tLc (iZipM K tr) g t te ws σ H Q := h
theorem lcZM_mk {a b' : Addr} {xs ys : List V} (hx : SqT K H a xs) (hy : SqL K H b' ys) (hl : xs.length = ys.length) (Pv : Addr → Nat → Hp → Prop) (h0 : ∀ D, H D = none → Pv D 0 (upd H D (.lst []))) (hq : ∀ D i H', H D = none → Pv D i H' → SqT K H' a xs ∧ SqL K H' b' ys)
    (hs : ∀ D (i : Nat) x y T H', H D = none → xs[i]? = some x → ys[i]? = some y → Pv D i H' → H' T = none → g (.ref T) (wipe σ ws) (upd H' T (.tup [x, y])) fun σ2 H2 => wipe σ2 ws = wipe σ ws ∧ t σ2 H2 fun b H3 => if b = true then te σ2 H3 fun y H4 => ∃ acc, H4 D = some (.lst acc) ∧ acc.length < sizeLine ∧ Pv D (i + 1) (upd H4 D (.lst (acc ++ [y]))) else Pv D (i + 1) H3)
    (hd : ∀ D H', H D = none → Pv D xs.length H' → Q (.ref D) H') : LcZM K g t te ws σ Q [.ref a, .ref b'] H := by
  refine ⟨a, b', xs, ys, rfl, hx, hy, fun D hD => ⟨fun i m H' => m = xs.length - i ∧ i ≤ xs.length ∧ Pv D i H', ⟨xs.length, by simp, Nat.zero_le _, h0 D hD⟩, ?_⟩⟩
  rintro i m H' ⟨rfl, hi, pp⟩
  obtain ⟨qx, qy⟩ := hq D i H' hD pp
  by_cases hlt : i < xs.length
  · refine .inr ⟨⟨xs, ys, xs[i], ys[i], qx, qy, List.getElem?_eq_getElem hlt, List.getElem?_eq_getElem (by omega)⟩, Pv D (i + 1), fun H2 p2 => ⟨xs.length - (i + 1), by omega, rfl, hlt, p2⟩, fun v H2 y => ?_⟩
    obtain ⟨T, x, y, rfl, hT, rfl, e1, e2⟩ := y
    exact hs D i x y T H' hD (e1 xs qx) (e2 ys qy) pp hT
  · have e : i = xs.length := by omega
    subst e
    exact .inl ⟨⟨xs, ys, qx, qy, Nat.le_refl _, by omega, .inl rfl⟩, hd D H' hD pp⟩
end
end My

set_option Elab.async false
set_option linter.all false
set_option maxRecDepth 100000
set_option maxHeartbeats 1000000
/-! ### repr of data: defs that run where nothing is being shown -/
namespace My
open PySem PySem.Spec PyProof.Rows L2
/-- a def's promise where no repr is under way -/
structure FnG (P : Program) (w : World) (K : PySem.W.Frag) (mg : Str → Option Value) (base : Heap) (CX : CXT) (k : Nat) (f : Addr) (fd : FuncData) (ps : List Str) (sp : Sp) : Prop where
  len : ∀ vs H Q E, sp vs H Q E → vs.length = ps.length
  run : ∀ (A : Around) (outer : List Env) (s : Shared) (H : Hp) (args : Args) (us : List Value) (vs : List V) (Q : VK) (E : XK), A.guards = some [] → Room k A → Env0 P w K mg base A outer s H → BindsTo s fd args (ps.zip us) → Vals vs us → sp vs H Q E →
    codeAny (model P w) A (.call (.ref f) args) (CR CX outer P w H s Q E) s
theorem FnG.mono {P : Program} {w : World} {K : PySem.W.Frag} {mg : Str → Option Value} {base : Heap} {CX : CXT} {j k : Nat} {f : Addr} {fd : FuncData} {ps : List Str} {sp : Sp} (F : FnG P w K mg base CX j f fd ps sp) (h : j ≤ k) :
    FnG P w K mg base CX k f fd ps sp := ⟨F.len, fun A outer s H args us vs Q E hg hr => F.run A outer s H args us vs Q E hg (hr.mono h)⟩
theorem fnG_of {CX : CXT} {P : Program} {w : World} {K : PySem.W.Frag} {mg : Str → Option Value} {base : Heap} {k : Nat} {f : Addr} {name qual : Str} {params : Arguments} {body : List Stmt} {scope : Scope} {dV kV doc pm cdv ct oc : Value} {an od : Option Addr}
    {osl : Array (Option Value)} {N ps : List Str} {sp : Sp} (lk : K.lookup f = some ⟨oc, od, .func (PySem.W.fnOf name qual params body scope dV kV doc pm an cdv ct), osl⟩) (hcd : PySem.W.codeIn K cdv qual = true) (S : FnScope N ps scope)
    (len : ∀ vs H Q E, sp vs H Q E → vs.length = ps.length)
    (hbody : ∀ (A : Around) (outer : List Env) (s : Shared) (H : Hp) (vs : List V) (Q : VK) (E : XK), (A.deeper (envOfC qual scope s.heap.objs.size f cdv)).guards = some [] → Room k (A.deeper (envOfC qual scope s.heap.objs.size f cdv)) → sp vs H Q E →
      ∃ t, PSs (cxOf CX P w K mg base N qual scope f cdv A outer s H E) body t ∧ t { nx := fun _ H' => Q .non H', rt := Q } (start N vs) H) :
    FnG P w K mg base CX (k + 1) f (PySem.W.fnOf name qual params body scope dV kV doc pm an cdv ct) ps sp := by
  refine ⟨len, fun A outer s H args us vs Q E hgd hr e0 hb r hsp => ?_⟩
  have hl := len _ _ _ _ hsp
  have KX : K.In s.heap := e0.mod.kin.keeps fun b o e => (e0.bs b o e).1
  have lim : s.heap.NoLimit := e0.mod.nolimit.keeps fun b o e => (e0.bs b o e).1
  have hkind : ∀ y ∈ ps.zip us, scope.names.lookup y.1 = some .local ∨ (scope.names.lookup y.1 = some .cell ∧ ((cellsFrom (s.heap.objs.size + 1) scope.names []).lookup y.1).isSome = true) := fun ⟨n, v⟩ hy => by
    rcases S.par n (List.of_mem_zip hy).1 with q | q
    · exact .inl q
    · exact .inr ⟨q, PySem.W.cellsFrom_some _ _ _ (.inl q)⟩
  refine codeAny_call_function hr.depth (KX _ _ lk) rfl S.co S.gen rfl (PySem.W.codeRec_of KX hcd) (hb _ _ _ _ ?_)
  refine wpAny_newFunctionEnv_cells S.kind hkind fun env he s1 x => ?_
  subst he
  refine ⟨lim.keeps x.toInCall.keep, codeAny_func ?_⟩
  obtain ⟨t, ht, hq⟩ := hbody A outer s H vs Q E hgd (hr.deeper _) hsp
  have I : Inv (cxOf CX P w K mg base N qual scope f cdv A outer s H E) [] (start N vs) H s1 := inv_start S hr.hd e0 hl r x
  refine wpAny_mono (ht.run [] s1 (start N vs) H _ I hq) (fun fl s' hs => ?_) fun e s' hs => hs
  have fin : ∀ {σ' : L2.St} {H' : Hp} {v : V} {u : Value}, Inv (cxOf CX P w K mg base N qual scope f cdv A outer s H E) [] σ' H' s' → RelV v u → Q v H' → CE outer P w H s Q u s' :=
    fun {σ' H' v u} J rv q => ⟨v, H', J.os, J.bare, J.base, J.hok, rv, q⟩
  cases fl with
  | ret u =>
    obtain ⟨v, σ', H', J, rv, q⟩ := hs
    exact fin J rv q
  | next =>
    obtain ⟨σ', H', J, q⟩ := hs
    exact fin (v := V.non) (u := Value.none) J rfl q
  | brk =>
    obtain ⟨_, _, _, q⟩ := hs
    exact False.elim q
  | cont =>
    obtain ⟨_, _, _, q⟩ := hs
    exact False.elim q
theorem Fun.okG {P : Program} {w : World} {K : PySem.W.Frag} {mg : Str → Option Value} {base : Heap} {x qual : Str} {st : Stmt} {f : Addr} {fd : FuncData} {N ps : List Str} {k : Nat} {sp : Sp} (F : L2.Fun K x qual st f fd) (S : FnScope N ps (defScope st)) (len : ∀ vs H Q E, sp vs H Q E → vs.length = ps.length)
    (hbody : ∀ (cdv : Value) (A : Around) (outer : List Env) (s : Shared) (H : Hp) (vs : List V) (Q : VK) (E : XK), (A.deeper (envOfC qual (defScope st) s.heap.objs.size f cdv)).guards = some [] → Room k (A.deeper (envOfC qual (defScope st) s.heap.objs.size f cdv)) → sp vs H Q E →
      ∃ t, PSs (cxOf CX0 P w K mg base N qual (defScope st) f cdv A outer s H E).nox (defBody st) t ∧ t { nx := fun _ H' => Q .non H', rt := Q } (start N vs) H) : FnG P w K mg base CX0 (k + 1) f fd ps sp := by
  obtain ⟨oc, od, kV, doc, pm, an, cdv, ct, osl, rfl, lk, hcd⟩ := F.ex
  exact fnG_of lk hcd S len fun A outer s H vs Q E hg hr hsp => by
    obtain ⟨t, h, q⟩ := hbody cdv A outer s H vs Q E hg hr hsp
    exact ⟨t, h.nox, q⟩
section
variable {X : Cx} {CX : CXT} {k : Nat} {f : Addr} {fd : FuncData} {ps : List Str} {sp : Sp} {E : XK} {x : Str} {p pos : Pos} {e : Expr} {es : List Expr} {t : TA}
theorem run_fnG {pins : List (Addr × Obj)} {σ : L2.St} {H : Hp} {s : Shared} {Q : VK} {us : List Value} {vs : List V} (F : FnG X.prog X.w X.K X.mg X.base CX k f fd ps sp) (hgd : X.A.guards = some []) (hr : Room k X.A) (hb : Binds X.K fd ps []) (hx : Passes CX X E)
    (I : Inv X pins σ H s) (r : Vals vs us) (h : sp vs H Q E) : wpAny (model X.prog X.w) X.A (call (.ref f) us) (EP X pins σ Q) X.xe s := by
  have hl : us.length = ps.length := by rw [← r.length]; exact F.len _ _ _ _ h
  have b := hb s us I.kIn (by rw [List.append_nil]; exact hl)
  rw [List.append_nil] at b
  refine wpAny_call (codeAny_mono (F.run X.A X.stack s H ⟨us, []⟩ us vs Q E hgd hr I.env0 b r h) fun r s' hq => ?_)
  cases r with
  | error e => exact hx pins σ H s e s' I hq
  | ok fl =>
    cases fl with
    | ret u => exact I.after hq
    | next => exact False.elim hq
    | brk => exact False.elim hq
    | cont => exact False.elim hq
theorem pe_callG (hgd : X.A.guards = some []) (F : FnG X.prog X.w X.K X.mg X.base CX k f fd ps sp) (hr : Room k X.A) (hg : Gl X x) (hm : X.mg x = some (.ref f)) (hk : PySem.W.keepIn X.K (.ref f) = true) (hb : Binds X.K fd ps []) (hx : Passes CX X E)
    (ha : PA X (e :: es) t) (hdb : (x == ("__debug__" : Str)) = false := by decide) (he : starEach (e :: es) X.env = (false, eval e X.env) :: starEach es X.env := by rfl) (hpl : (backTo pos (starEach es X.env)).any (·.1) = false := by rfl) :
    PE X (.Call (.Name x p) (e :: es) [] pos) (tCall sp [] E t) := by
  refine ⟨fun pins s σ H Q I h => ?_⟩
  refine wpAny_Call_Name_kw (ld_glob I hg hm ?_ hdb)
  refine PySem.W.callWith_K (h₀ := X.base) I.ok.mod.kin hk (thn (ha.run pos pins s σ H _ I h) fun us s1 ⟨vs, H1, I1, r, q⟩ => ⟨I1.kIn, ?_⟩) he hpl
  have q' : sp vs H1 Q E := by
    have e : vs ++ [] = vs := List.append_nil vs
    have q2 : sp (vs ++ []) H1 Q E := q
    rw [e] at q2
    exact q2
  exact run_fnG F hgd hr hb hx I1 r q'
end
/-! what repr tells of data -/
def rReprD (K : PySem.W.Frag) : List V → Hp → VK → Prop := fun xs H Q => ∃ (x : V) (d : PyData), xs = [x] ∧ Dp K H x d ∧ d.showable = true ∧ d.hasDict = false ∧ d.depth ≤ 100 ∧ d.shown.length ≤ sizeLine ∧ Q (.str d.shown) H
theorem call_reprD {X : Cx} (hgd : X.A.guards = some []) (hu : X.A.units + 150 < cLine) : CallR X (.builtin "repr") (rReprD X.K) := by
  intro pins s σ H vs us Q I r h
  obtain ⟨x, d, rfl, hd, h1, h2, h3, h4, q⟩ := h
  obtain ⟨u, rfl, ru⟩ := L2.vals1 r
  obtain ⟨as, hr⟩ := Dp.reads I _ _ _ hd ru
  cases hd with
  | lst hs ha =>
    cases ru
    exact repr_of_reads' hr h1 (fun z => by rw [h2] at z; cases z) hgd (by omega) (fun _ _ e => e) (fun h' v tk hk => ⟨.str _, H, I.kept (t' := tk) hk, ⟨_, rfl⟩, q⟩) h4
  | tup hs ha =>
    cases ru
    exact repr_of_reads' hr h1 (fun z => by rw [h2] at z; cases z) hgd (by omega) (fun _ _ e => e) (fun h' v tk hk => ⟨.str _, H, I.kept (t' := tk) hk, ⟨_, rfl⟩, q⟩) h4
  | non =>
    cases ru
    exact P.repr_of_none ⟨.str _, H, I.kept (t' := s.toks + 1) (fun _ _ e => e), ⟨_, rfl⟩, q⟩
  | bl b =>
    cases ru
    exact P.repr_of_bool ⟨.str _, H, I.kept (t' := s.toks + 1) (fun _ _ e => e), ⟨_, rfl⟩, q⟩
  | int i =>
    obtain ⟨t, rfl⟩ := ru
    exact P.repr_of_int (of_decide_eq_true h1) ⟨.str _, H, I.kept (t' := s.toks + 1) (fun _ _ e => e), ⟨_, rfl⟩, q⟩
  | str z =>
    obtain ⟨t, rfl⟩ := ru
    exact P.repr_of_str ⟨.str _, H, I.kept (t' := s.toks + 1) (fun _ _ e => e), ⟨_, rfl⟩, q⟩ h4
/-- dict(d) -/
def rDictD : List V → Hp → VK → Prop := fun xs H Q => ∃ (a : Addr) (kvs : List (Key × V)), xs = [.ref a] ∧ Rd H a (.dK kvs) ∧ ∀ p, H p = none → Q (.ref p) (upd H p (.dK kvs))
theorem cr_dictD {X : Cx} : CallR X (.type "dict") rDictD := call_dictD
theorem hu_150 {A : Around} {k : Nat} (hr : Room k A) : A.units + 150 < cLine := by have := hr.un; omega
/-! the law's own call -/
theorem law_callG {P : Program} {w : World} {K : PySem.W.Frag} {mg mb : Str → Option Value} {CX : CXT} {k : Nat} {fa a : Addr} {fd : FuncData} {x : Str} {sp : Sp} {s₁ : Shared} {vs : List Value} {ns : List Int}
    (KX : K.In s₁.heap) (hns : s₁.heap.Ns mainGlobals mg) (hb : s₁.heap.Ns builtinsNs mb) (hbb : ∀ x : Str, x ≠ Str.ofString "__name__" → mb x = bootBuiltins x) (hlim : s₁.heap.NoLimit) (hg : s₁.gens = #[])
    (ha : s₁.heap.get? a = some { cls := .type "list", data := .seq vs.toArray }) (hi : IntsAre vs ns) (hl : ns.length ≤ sizeLine) (hr : Room k callerA)
    (F : ∀ base : Heap, K.In base → base.Ns mainGlobals mg → FnG P w K mg base CX k fa fd [x] sp) (hbind : ∀ (s : Shared) (u : Value), BindsTo s fd ⟨[u], []⟩ [(x, u)])
    (hsp : ∀ H : Hp, Only H → SqL K H a (ns.map V.int) → sp [.ref a] H (fun v _ => v = .bl true) fun _ _ _ => False) (hCX : ∀ (H : Hp) (e : Value) (s' : Shared), CX [] H s₁ (fun _ _ _ => False) e s' → False) :
    codeAny (model P w) callerA (.call (.ref fa) ⟨[.ref a], []⟩) (fun r s' => r = .ok (.ret (.bool true)) ∧ OldK s₁.heap s'.heap ∧ s'.os = s₁.os ∧ AllBare s'.gens) s₁ := by
  have rv := vals_ints hi
  have lenV := hi.length
  have core : ∀ H : Hp, Only H → SqL K H a (ns.map V.int) → HOk P w H s₁.heap → (∀ b, H b ≠ none → b = a) → (H a ≠ none → K.lookup a = none) →
      codeAny (model P w) callerA (.call (.ref fa) ⟨[.ref a], []⟩) (fun r s' => r = .ok (.ret (.bool true)) ∧ OldK s₁.heap s'.heap ∧ s'.os = s₁.os ∧ AllBare s'.gens) s₁ := by
    intro H hO hS hok hA hK
    have noA : ∀ {b : Addr} {o : Obj} {es : Array DictEntry} {ep : Nat}, s₁.heap.get? b = some o → o.data = .dict es ep → H b = none := by
      intro b o es ep e d
      cases q : H b with
      | none => rfl
      | some u =>
        have z := hA b (by rw [q]; exact fun z => nomatch z)
        rw [z, ha] at e
        cases e
        cases d
    have nsK : ∀ {b : Addr} {m : Str → Option Value}, s₁.heap.Ns b m → (hidT s₁.heap H).Ns b m := by
      rintro b m ⟨o, es, ep, e, d, r⟩
      exact ⟨o, es, ep, hidT_get e (noA e d), d, r⟩
    have hKb : K.In (hidT s₁.heap H) := fun b o e => by
      refine hidT_get (KX b o e) ?_
      cases q : H b with
      | none => rfl
      | some u =>
        have z := hA b (by rw [q]; exact fun z => nomatch z)
        have z2 := hK (by rw [← z, q]; exact fun z => nomatch z)
        rw [z, z2] at e
        cases e
    have hM : L2.Mod K mg (hidT s₁.heap H) := ⟨hKb, nsK hns, ⟨mb, nsK hb, hbb⟩, by obtain ⟨mc, h1, h2⟩ := hlim; exact ⟨mc, nsK h1, h2⟩⟩
    have e0 : Env0 P w K mg (hidT s₁.heap H) callerA [] s₁ H := ⟨rfl, hM, fun b o e => of_hidT e, Nat.le_of_eq (hidT_size s₁.heap H), True.intro, fun b hb => absurd (show b ∈ ([] : List Addr) from hb) List.not_mem_nil, hok, AllBare.of_eq hg⟩
    refine codeAny_mono ((F (hidT s₁.heap H) hKb (nsK hns)).run callerA [] s₁ H ⟨[.ref a], []⟩ [.ref a] [.ref a] (fun v _ => v = .bl true) (fun _ _ _ => False) rfl hr e0 (hbind s₁ (.ref a)) (.cons rfl .nil) (hsp H hO hS)) fun r s' h => ?_
    cases r with
    | error e => exact (hCX H e s' h).elim
    | ok fl =>
      cases fl with
      | next => exact h.elim
      | brk => exact h.elim
      | cont => exact h.elim
      | ret u =>
        obtain ⟨v, H', os, bare, un, hok', r', q⟩ := h
        have q' : v = .bl true := q
        subst q'
        have r2 : u = .bool true := r'
        subst r2
        refine ⟨rfl, OldK.of_keep fun b o e => ?_, os, bare⟩
        cases q : H b with
        | none => exact un.keep b o e q (fun z => absurd (show b ∈ ([] : List Addr) from z) List.not_mem_nil) List.not_mem_nil
        | some u =>
          rcases hO b with z | ⟨ob, xs, z⟩
          · rw [z] at q; cases q
          · have z2 := un.frzs b ob (.lst xs) z
            obtain ⟨e1, _⟩ := hok b _ z
            obtain ⟨e2, _⟩ := hok' b _ z2
            rw [e] at e1
            cases e1
            exact e2
  cases hk : K.lookup a with
  | none =>
    refine core (fun b => if b = a then some (.frz { cls := .type "list", data := .seq vs.toArray } (.lst (ns.map V.int))) else none) (fun b => ?_) (.inl (.inr ⟨_, if_pos rfl⟩)) (fun b u z => ?_) (fun b z => ?_) fun _ => hk
    · by_cases e : b = a
      · exact .inr ⟨_, _, if_pos e⟩
      · exact .inl (if_neg e)
    · by_cases e : b = a
      · subst e
        have z' : some (HO.frz { cls := .type "list", data := .seq vs.toArray } (.lst (ns.map V.int))) = some u := (if_pos rfl).symm.trans z
        cases z'
        exact ⟨ha, by rw [List.length_map]; exact hl, vs, 0, rv, ha⟩
      · have z' : none = some u := (if_neg e).symm.trans z
        cases z'
    · by_cases e : b = a
      · exact e
      · exact absurd (if_neg e) z
  | some o =>
    have e := KX a o hk
    rw [ha] at e
    cases e
    exact core (fun _ => none) (fun _ => .inl rfl) (.inr ⟨_, vs.toArray, 0, hk, rfl, rfl, rfl, by rw [List.size_toArray, lenV]; exact hl, rv⟩) (fun b u z => by cases z) (fun b z => absurd rfl z) fun z => absurd rfl z
theorem walk_ofG {l : PySem.W.OpenLaw} {n k : Nat} {q : Program} {loose : List Str} {XP : (Str → Option Value) → Heap → Prop} {YP : World → Heap → Prop} {d : DefRec} {K : Params → PySem.W.Frag} {CX : World → CXT} {sp : World → Sp} {x : Str}
    (hn : l.most = some n) (hn2 : n ≤ sizeLine) (hdf : d.params.defaults = []) (hr : Room k callerA) (hY : ∀ (w : World) (h : Heap), YP w h → (K w.params).In h)
    (F : ∀ (w : World) (mg : Str → Option Value) (fa : Addr) (h : Heap), (K w.params).In h → h.Ns mainGlobals mg → mg d.name = some (.ref fa) →
      ∃ fd : FuncData, (∀ (s : Shared) (u : Value), BindsTo s fd ⟨[u], []⟩ [(x, u)]) ∧ ∀ base : Heap, (K w.params).In base → base.Ns mainGlobals mg → FnG l.prog w (K w.params) mg base (CX w) k fa fd [x] (sp w))
    (hsp : ∀ (w : World) (H : Hp) (a : Addr) (ns : List Int), ns.length ≤ n → Only H → SqL (K w.params) H a (ns.map V.int) → sp w [.ref a] H (fun v _ => v = .bl true) fun _ _ _ => False)
    (hCX : ∀ (w : World) (H : Hp) (s : Shared) (e : Value) (s' : Shared), CX w [] H s (fun _ _ _ => False) e s' → False) :
    PySem.W.WalkO q loose XP YP l.row.toRowW d [] fun f vs => PySem.call f vs :=
  Att.attach_call hn hdf fun w s₀ s₁ mg mb fa o pm cd doc a vs ns G Y ho hd hcd hmg hobj hints hlen hg => by
    have KX := hY w s₁.heap Y
    obtain ⟨fd, hb, hF⟩ := F w mg fa s₁.heap KX G.T.g hmg
    exact law_callG KX G.T.g G.T.b G.T.builtins G.T.nolimit hg hobj hints (Nat.le_trans hlen hn2) hr hF hb (fun H hO hS => hsp w H a ns hlen hO hS) fun H e s' => hCX w H s₁ e s'
end My

set_option Elab.async false
set_option linter.all false
set_option maxRecDepth 100000
set_option maxHeartbeats 1000000
/-! ### plain data, and how long its text is -/
namespace My
open PySem PySem.Spec PyProof.Rows L2
mutual
def Pl : PyData → Bool
  | .none => true
  | .bool _ => true
  | .int i => decide (i.natAbs < 10 ^ 40)
  | .str z => PyData.strOk z
  | .list ds => Pls ds
  | .tuple ds => Pls ds
  | _ => false
def Pls : List PyData → Bool
  | [] => true
  | d :: ds => Pl d && Pls ds
end
mutual
def sh : PyData → Nat
  | .int _ => 140
  | .str z => 10 * z.length + 2
  | .list ds => 4 + shs ds
  | .tuple ds => 4 + shs ds
  | _ => 5
def shs : List PyData → Nat
  | [] => 0
  | d :: ds => sh d + 2 + shs ds
end
theorem app_len (a b : Str) : (a ++ b).length = a.length + b.length := by
  show (a.cps ++ b.cps).size = _
  exact Array.size_append ..
def sumL (ts : List Str) : Nat := (ts.map fun t => t.length + 2).sum
theorem sumL_cons (t : Str) (ts : List Str) : sumL (t :: ts) = t.length + 2 + sumL ts := List.sum_cons ..
theorem textFrom_len : ∀ (ts : List Str) (i : Nat) (acc : Str), (textFrom i acc ts).length ≤ acc.length + sumL ts
  | [], _, acc => by
    unfold textFrom
    exact Nat.le_add_right _ _
  | t :: ts, i, acc => by
    unfold textFrom
    refine Nat.le_trans (textFrom_len ts (i + 1) _) ?_
    rw [app_len, app_len, sumL_cons]
    have : (Str.ofString (if i > 0 then ", " else "")).length ≤ 2 := by
      split <;> decide
    omega
theorem listText_len (ts : List Str) : (listText ts).length ≤ 2 + sumL ts := by
  unfold listText
  rw [app_len]
  have h := textFrom_len ts 0 (Str.ofString "[")
  have h1 : (Str.ofString "[").length = 1 := rfl
  have h2 : (Str.ofString "]").length = 1 := rfl
  omega
theorem join_len (ts : List Str) : ((Str.ofString ", ").join ts).length ≤ sumL ts := by
  induction ts with
  | nil => exact Nat.le_refl 0
  | cons t r ih =>
    cases r with
    | nil =>
      rw [sumL_cons]
      show t.length ≤ _
      omega
    | cons u r =>
      rw [sumL_cons]
      show (t ++ (Str.ofString ", ") ++ (Str.ofString ", ").join (u :: r)).length ≤ _
      rw [app_len, app_len]
      have : (Str.ofString ", ").length = 2 := rfl
      omega
theorem tupleText_len (ts : List Str) : (tupleText ts).length ≤ 3 + sumL ts := by
  unfold tupleText
  rw [app_len, app_len]
  have h := join_len ts
  have h1 : (Str.ofString "(").length = 1 := rfl
  have h2 : (Str.ofString (if (ts.length == 1) = true then ",)" else ")")).length ≤ 2 := by
    split <;> decide
  omega
theorem int_len {i : Int} (h : i.natAbs < 10 ^ 40) : (Str.ofString (toString i)).length ≤ 140 := by
  have key : ∀ s : String, (Str.ofString s).length = s.length := fun s => PySem.ofString_length s
  rw [key]
  cases i with
  | ofNat n =>
    have := nat_repr_length_le (n := n) (k := 139) (by decide) (Nat.lt_trans (show n < 10 ^ 40 from h) (by decide))
    show n.repr.length ≤ 140
    omega
  | negSucc n =>
    have := nat_repr_length_le (n := n + 1) (k := 139) (by decide) (Nat.lt_trans (show n + 1 < 10 ^ 40 from h) (by decide))
    show ("-" ++ (n + 1).repr).length ≤ 140
    rw [String.length_append]
    have : ("-" : String).length = 1 := rfl
    omega
mutual
theorem shown_len : ∀ d : PyData, Pl d = true → d.shown.length ≤ sh d
  | .none, _ => by decide
  | .bool b, _ => by cases b <;> decide
  | .int i, h => int_len (of_decide_eq_true h)
  | .str z, h => by
    refine StrLaws.reprText_len z fun c hc => ?_
    have h' : (z.cps.all fun x => decide (x < 1114112)) = true := h
    rw [Array.all_eq_true'] at h'
    have := of_decide_eq_true (h' c (by simpa using hc))
    omega
  | .list ds, h => by
    have := showns_len ds h
    have h2 := listText_len (PyData.shownAll ds)
    show (listText (PyData.shownAll ds)).length ≤ 4 + shs ds
    omega
  | .tuple ds, h => by
    have := showns_len ds h
    have h2 := tupleText_len (PyData.shownAll ds)
    show (tupleText (PyData.shownAll ds)).length ≤ 4 + shs ds
    omega
theorem showns_len : ∀ ds : List PyData, Pls ds = true → sumL (PyData.shownAll ds) ≤ shs ds
  | [], _ => Nat.le_refl 0
  | d :: ds, h => by
    rw [Pls, Bool.and_eq_true] at h
    have h1 := shown_len d h.1
    have h2 := showns_len ds h.2
    show sumL (d.shown :: PyData.shownAll ds) ≤ sh d + 2 + shs ds
    rw [sumL_cons]
    omega
end
mutual
theorem pl_show : ∀ d : PyData, Pl d = true → d.showable = true ∧ d.hasDict = false ∧ d.canLay0 = true
  | .none, _ => ⟨rfl, rfl, rfl⟩
  | .bool _, _ => ⟨rfl, rfl, rfl⟩
  | .int i, h => ⟨by
      have h' : i.natAbs < 10 ^ 40 := of_decide_eq_true h
      show decide (i.natAbs.log2 < 1920) = true
      refine decide_eq_true ?_
      by_cases z : i.natAbs = 0
      · rw [z]; decide
      · exact (Nat.log2_lt z).mpr (Nat.lt_trans h' (by decide)), rfl, rfl⟩
  | .str z, h => ⟨rfl, rfl, h⟩
  | .list ds, h => pls_show ds h
  | .tuple ds, h => pls_show ds h
theorem pls_show : ∀ ds : List PyData, Pls ds = true → PyData.showableAll ds = true ∧ PyData.hasDictAll ds = false ∧ PyData.canLayAll0 ds = true
  | [], _ => ⟨rfl, rfl, rfl⟩
  | d :: ds, h => by
    rw [Pls, Bool.and_eq_true] at h
    obtain ⟨a1, a2, a3⟩ := pl_show d h.1
    obtain ⟨b1, b2, b3⟩ := pls_show ds h.2
    refine ⟨?_, ?_, ?_⟩
    · show (d.showable && PyData.showableAll ds) = true
      rw [a1, b1]; rfl
    · show (d.hasDict || PyData.hasDictAll ds) = false
      rw [a2, b2]; rfl
    · show (d.canLay0 && PyData.canLayAll0 ds) = true
      rw [a3, b3]; rfl
end
/-- plain, not deep, not long -/
structure Gd (k W : Nat) (d : PyData) : Prop where
  pl : Pl d = true
  dp : d.depth ≤ k
  wt : sh d ≤ W
structure Gds (k W : Nat) (ds : List PyData) : Prop where
  pl : Pls ds = true
  dp : PyData.depthAll ds ≤ k
  wt : shs ds ≤ W
theorem Gd.mono {k W k2 W2 : Nat} {d : PyData} (h : Gd k W d) (h1 : k ≤ k2) (h2 : W ≤ W2) : Gd k2 W2 d := ⟨h.1, Nat.le_trans h.2 h1, Nat.le_trans h.3 h2⟩
theorem Gds.mono {k W k2 W2 : Nat} {ds : List PyData} (h : Gds k W ds) (h1 : k ≤ k2) (h2 : W ≤ W2) : Gds k2 W2 ds := ⟨h.1, Nat.le_trans h.2 h1, Nat.le_trans h.3 h2⟩
theorem Gds.nil {k W : Nat} : Gds k W [] := ⟨rfl, Nat.zero_le _, Nat.zero_le _⟩
theorem Gds.cons {k W W2 : Nat} {d : PyData} {ds : List PyData} (h : Gd k W d) (hs : Gds k W2 ds) : Gds k (W + 2 + W2) (d :: ds) := ⟨by rw [Pls, h.1, hs.1]; rfl, by
  show max d.depth (PyData.depthAll ds) ≤ k
  exact Nat.max_le.mpr ⟨h.2, hs.2⟩, by
  show sh d + 2 + shs ds ≤ _
  have := h.3
  have := hs.3
  omega⟩
theorem Gd.tup {k W : Nat} {ds : List PyData} (h : Gds k W ds) : Gd (k + 1) (W + 4) (.tuple ds) := ⟨h.1, Nat.succ_le_succ h.2, by show 4 + shs ds ≤ _; have := h.3; omega⟩
theorem Gd.lst {k W : Nat} {ds : List PyData} (h : Gds k W ds) : Gd (k + 1) (W + 4) (.list ds) := ⟨h.1, Nat.succ_le_succ h.2, by show 4 + shs ds ≤ _; have := h.3; omega⟩
theorem Gd.un {k W : Nat} {ds : List PyData} (h : Gd (k + 1) W (.tuple ds)) : Gds k W ds := ⟨h.1, Nat.le_of_succ_le_succ h.2, by have := h.3; rw [sh] at this; omega⟩
theorem Gds.mem {k W : Nat} : ∀ {ds : List PyData}, Gds k W ds → ∀ d ∈ ds, Gd k W d
  | d :: ds, h, e, he => by
    have h1 := h.1
    rw [Pls, Bool.and_eq_true] at h1
    have h2 : max d.depth (PyData.depthAll ds) ≤ k := h.2
    have h3 : sh d + 2 + shs ds ≤ W := h.3
    rcases List.mem_cons.mp he with z | z
    · rw [z]; exact ⟨h1.1, Nat.le_trans (Nat.le_max_left _ _) h2, by omega⟩
    · exact Gds.mem (ds := ds) ⟨h1.2, Nat.le_trans (Nat.le_max_right _ _) h2, by omega⟩ e z
theorem Gds.app {k W W2 : Nat} : ∀ {ds es : List PyData}, Gds k W ds → Gds k W2 es → Gds k (W + W2) (ds ++ es)
  | [], es, _, h2 => h2.mono (Nat.le_refl _) (Nat.le_add_left _ _)
  | d :: ds, es, h, h2 => by
    have h1 := h.1
    rw [Pls, Bool.and_eq_true] at h1
    have h4 : max d.depth (PyData.depthAll ds) ≤ k := h.2
    have h3 : sh d + 2 + shs ds ≤ W := h.3
    have r := Gds.app (ds := ds) (es := es) (W := shs ds) ⟨h1.2, Nat.le_trans (Nat.le_max_right _ _) h4, Nat.le_refl _⟩ h2
    have c := Gds.cons (d := d) (W := sh d) ⟨h1.1, Nat.le_trans (Nat.le_max_left _ _) h4, Nat.le_refl _⟩ r
    exact c.mono (Nat.le_refl _) (by omega)
theorem Gds.sub {k : Nat} {ds es : List PyData} (s : es.Sublist ds) : ∀ {W : Nat}, Gds k W ds → Gds k W es := by
  induction s with
  | slnil => exact fun h => h
  | cons a s ih =>
    rename_i l1 l2
    intro W h
    have h1 := h.1
    rw [Pls, Bool.and_eq_true] at h1
    have h4 : max a.depth (PyData.depthAll l2) ≤ k := h.2
    have h3 : sh a + 2 + shs l2 ≤ W := h.3
    exact ih ⟨h1.2, Nat.le_trans (Nat.le_max_right _ _) h4, by omega⟩
  | cons_cons a s ih =>
    rename_i l1 l2
    intro W h
    have h1 := h.1
    rw [Pls, Bool.and_eq_true] at h1
    have h4 : max a.depth (PyData.depthAll l2) ≤ k := h.2
    have h3 : sh a + 2 + shs l2 ≤ W := h.3
    have r := ih (W := shs l2) ⟨h1.2, Nat.le_trans (Nat.le_max_right _ _) h4, Nat.le_refl _⟩
    exact (Gds.cons (W := sh a) ⟨h1.1, Nat.le_trans (Nat.le_max_left _ _) h4, Nat.le_refl _⟩ r).mono (Nat.le_refl _) (by omega)
theorem shs_len : ∀ ds : List PyData, 2 * ds.length ≤ shs ds
  | [] => Nat.le_refl 0
  | d :: ds => by
    have := shs_len ds
    show 2 * (ds.length + 1) ≤ sh d + 2 + shs ds
    omega
theorem Gd.shaped {k W : Nat} {d : PyData} (h : Gd k W d) (hk : k ≤ 64) : SeqAt.shaped d = true := by
  show (d.canLay0 && decide (d.depth ≤ 64)) = true
  rw [(pl_show d h.1).2.2, decide_eq_true (Nat.le_trans h.2 hk)]
  rfl
theorem rp_d {K : PySem.W.Frag} {H : Hp} {Q : VK} {x : V} {d : PyData} {k W : Nat} (h : Gd k W d) (hk : k ≤ 64) (hW : W ≤ 10000000) (hd : Dp K H x d) (q : Q (.str d.shown) H) : rReprD K [x] H Q := by
  obtain ⟨a1, a2, a3⟩ := pl_show d h.1
  exact ⟨x, d, rfl, hd, a1, a2, Nat.le_trans h.2 (by omega), Nat.le_trans (Nat.le_trans (shown_len d h.1) (Nat.le_trans h.3 hW)) (by decide), q⟩
end My

set_option Elab.async false
set_option linter.all false
set_option maxRecDepth 100000
set_option maxHeartbeats 4000000
namespace My
open PySem PySem.Spec PyProof.Rows L2
/-! ### the text -/
def topS (i : Nat) : Stmt := PySem.Challenge.pw_heldpasts_k87_notes_and_histories_judged.main.body.getD i (.Pass ⟨0, 0, 0, 0⟩)
abbrev s_is_text : Stmt := topS 1
theorem sc_is_text : FnScope ["value"] ["value"] (defScope s_is_text) := ⟨rfl, rfl, rfl, by decide +kernel, rfl, by decide +kernel, by decide +kernel⟩
-- is_text: 0 value
abbrev s_is_changes : Stmt := topS 3
theorem sc_is_changes : FnScope ["value", "change", "keys", "key", "_", "one", "other"] ["value"] (defScope s_is_changes) := ⟨rfl, rfl, rfl, by decide +kernel, rfl, by decide +kernel, by decide +kernel⟩
-- is_changes: 0 value, 1 change, 2 keys, 3 key, 4 _, 5 one, 6 other
abbrev s_is_change : Stmt := topS 4
theorem sc_is_change : FnScope ["value"] ["value"] (defScope s_is_change) := ⟨rfl, rfl, rfl, by decide +kernel, rfl, by decide +kernel, by decide +kernel⟩
-- is_change: 0 value
abbrev s_is_entries : Stmt := topS 5
theorem sc_is_entries : FnScope ["value", "_", "text"] ["value"] (defScope s_is_entries) := ⟨rfl, rfl, rfl, by decide +kernel, rfl, by decide +kernel, by decide +kernel⟩
-- is_entries: 0 value, 1 _, 2 text
abbrev s_is_number : Stmt := topS 7
theorem sc_is_number : FnScope ["value", "low", "high"] ["value", "low", "high"] (defScope s_is_number) := ⟨rfl, rfl, rfl, by decide +kernel, rfl, by decide +kernel, by decide +kernel⟩
-- is_number: 0 value, 1 low, 2 high
abbrev s_is_note : Stmt := topS 9
theorem sc_is_note : FnScope ["value"] ["value"] (defScope s_is_note) := ⟨rfl, rfl, rfl, by decide +kernel, rfl, by decide +kernel, by decide +kernel⟩
-- is_note: 0 value
abbrev s_is_bound : Stmt := topS 10
theorem sc_is_bound : FnScope ["value"] ["value"] (defScope s_is_bound) := ⟨rfl, rfl, rfl, by decide +kernel, rfl, by decide +kernel, by decide +kernel⟩
-- is_bound: 0 value
abbrev s_is_history : Stmt := topS 11
theorem sc_is_history : FnScope ["value", "number", "commit"] ["value"] (defScope s_is_history) := ⟨rfl, rfl, rfl, by decide +kernel, rfl, by decide +kernel, by decide +kernel⟩
-- is_history: 0 value, 1 number, 2 commit
abbrev s_is_commit : Stmt := topS 12
theorem sc_is_commit : FnScope ["number", "value", "snapshot", "serial", "notes", "changes", "note"] ["number", "value"] (defScope s_is_commit) := ⟨rfl, rfl, rfl, by decide +kernel, rfl, by decide +kernel, by decide +kernel⟩
-- is_commit: 0 number, 1 value, 2 snapshot, 3 serial, 4 notes, 5 changes, 6 note
abbrev s__law_well : Stmt := topS 14
theorem sc__law_well : FnScope ["_law_cell"] ["_law_cell"] (defScope s__law_well) := ⟨rfl, rfl, rfl, by decide +kernel, rfl, by decide +kernel, by decide +kernel⟩
-- _law_well: 0 _law_cell
abbrev s__law_dip : Stmt := topS 15
theorem sc__law_dip : FnScope ["_law_well_here", "_law_many", "_law_drop"] ["_law_well_here", "_law_many"] (defScope s__law_dip) := ⟨rfl, rfl, rfl, by decide +kernel, rfl, by decide +kernel, by decide +kernel⟩
-- _law_dip: 0 _law_well_here, 1 _law_many, 2 _law_drop
abbrev s__law_same : Stmt := topS 16
theorem sc__law_same : FnScope ["_law_found", "_law_due", "_law_k"] ["_law_found", "_law_due"] (defScope s__law_same) := ⟨rfl, rfl, rfl, by decide +kernel, rfl, by decide +kernel, by decide +kernel⟩
-- _law_same: 0 _law_found*, 1 _law_due*, 2 _law_k
abbrev s__law_word : Stmt := topS 17
theorem sc__law_word : FnScope ["_law_well_here", "_law_most", "_law_signs", "_law_k"] ["_law_well_here", "_law_most"] (defScope s__law_word) := ⟨rfl, rfl, rfl, by decide +kernel, rfl, by decide +kernel, by decide +kernel⟩
-- _law_word: 0 _law_well_here*, 1 _law_most, 2 _law_signs*, 3 _law_k
abbrev s__law_pool : Stmt := topS 18
theorem sc__law_pool : FnScope ["_law_well_here", "_law_many", "_law_pool_here", "_law_k", "_law_key"] ["_law_well_here", "_law_many"] (defScope s__law_pool) := ⟨rfl, rfl, rfl, by decide +kernel, rfl, by decide +kernel, by decide +kernel⟩
-- _law_pool: 0 _law_well_here, 1 _law_many, 2 _law_pool_here, 3 _law_k, 4 _law_key
abbrev s__law_has : Stmt := topS 19
theorem sc__law_has : FnScope ["_law_note_here", "_law_key"] ["_law_note_here", "_law_key"] (defScope s__law_has) := ⟨rfl, rfl, rfl, by decide +kernel, rfl, by decide +kernel, by decide +kernel⟩
-- _law_has: 0 _law_note_here, 1 _law_key
abbrev s__law_given : Stmt := topS 20
theorem sc__law_given : FnScope ["_law_rows", "_law_note_here", "_law_found", "_law_key"] ["_law_rows", "_law_note_here"] (defScope s__law_given) := ⟨rfl, rfl, rfl, by decide +kernel, rfl, by decide +kernel, by decide +kernel⟩
-- _law_given: 0 _law_rows*, 1 _law_note_here*, 2 _law_found, 3 _law_key
abbrev s__law_note : Stmt := topS 21
theorem sc__law_note : FnScope ["_law_well_here", "_law_pool_here", "_law_rows", "_law_ends", "_law_low", "_law_high"] ["_law_well_here", "_law_pool_here", "_law_rows"] (defScope s__law_note) := ⟨rfl, rfl, rfl, by decide +kernel, rfl, by decide +kernel, by decide +kernel⟩
-- _law_note: 0 _law_well_here, 1 _law_pool_here, 2 _law_rows, 3 _law_ends, 4 _law_low, 5 _law_high
abbrev s__law_laid : Stmt := topS 22
theorem sc__law_laid : FnScope ["_law_rows", "_law_changes_here", "_law_key", "_law_value"] ["_law_rows", "_law_changes_here"] (defScope s__law_laid) := ⟨rfl, rfl, rfl, by decide +kernel, rfl, by decide +kernel, by decide +kernel⟩
-- _law_laid: 0 _law_rows, 1 _law_changes_here, 2 _law_key, 3 _law_value
abbrev s__law_changes : Stmt := topS 23
theorem sc__law_changes : FnScope ["_law_well_here", "_law_keys", "_law_most", "_law_rows", "_law_k", "_law_value", "_law_key"] ["_law_well_here", "_law_keys", "_law_most"] (defScope s__law_changes) := ⟨rfl, rfl, rfl, by decide +kernel, rfl, by decide +kernel, by decide +kernel⟩
-- _law_changes: 0 _law_well_here, 1 _law_keys, 2 _law_most, 3 _law_rows*, 4 _law_k, 5 _law_value, 6 _law_key
abbrev s__law_barred : Stmt := topS 24
theorem sc__law_barred : FnScope ["_law_commits", "_law_keys", "_law_commit", "_law_row"] ["_law_commits"] (defScope s__law_barred) := ⟨rfl, rfl, rfl, by decide +kernel, rfl, by decide +kernel, by decide +kernel⟩
-- _law_barred: 0 _law_commits, 1 _law_keys, 2 _law_commit, 3 _law_row
abbrev s__law_history : Stmt := topS 25
theorem sc__law_history : FnScope ["_law_well_here", "_law_pool_here", "_law_rows", "_law_many", "_law_most", "_law_pasts", "_law_history_here", "_law_k", "_law_snapshot", "_law_barred_here", "_law_notes", "_law_changes_here", "_law_j", "_law_key"] ["_law_well_here", "_law_pool_here", "_law_rows", "_law_many", "_law_most"] (defScope s__law_history) := ⟨rfl, rfl, rfl, by decide +kernel, rfl, by decide +kernel, by decide +kernel⟩
-- _law_history: 0 _law_well_here*, 1 _law_pool_here*, 2 _law_rows, 3 _law_many, 4 _law_most, 5 _law_pasts*, 6 _law_history_here, 7 _law_k, 8 _law_snapshot*, 9 _law_barred_here*, 10 _law_notes, 11 _law_changes_here, 12 _law_j, 13 _law_key
abbrev s__law_is_text : Stmt := topS 26
theorem sc__law_is_text : FnScope ["_law_value", "_law_sign"] ["_law_value"] (defScope s__law_is_text) := ⟨rfl, rfl, rfl, by decide +kernel, rfl, by decide +kernel, by decide +kernel⟩
-- _law_is_text: 0 _law_value, 1 _law_sign
abbrev s__law_is_row : Stmt := topS 27
theorem sc__law_is_row : FnScope ["_law_row", "_law_may_go"] ["_law_row", "_law_may_go"] (defScope s__law_is_row) := ⟨rfl, rfl, rfl, by decide +kernel, rfl, by decide +kernel, by decide +kernel⟩
-- _law_is_row: 0 _law_row, 1 _law_may_go
abbrev s__law_are_rows : Stmt := topS 28
theorem sc__law_are_rows : FnScope ["_law_value", "_law_may_go", "_law_k"] ["_law_value", "_law_may_go"] (defScope s__law_are_rows) := ⟨rfl, rfl, rfl, by decide +kernel, rfl, by decide +kernel, by decide +kernel⟩
-- _law_are_rows: 0 _law_value, 1 _law_may_go, 2 _law_k
abbrev s__law_is_note : Stmt := topS 29
theorem sc__law_is_note : FnScope ["_law_value", "_law_end"] ["_law_value"] (defScope s__law_is_note) := ⟨rfl, rfl, rfl, by decide +kernel, rfl, by decide +kernel, by decide +kernel⟩
-- _law_is_note: 0 _law_value, 1 _law_end
abbrev s__law_is_commit : Stmt := topS 30
theorem sc__law_is_commit : FnScope ["_law_value", "_law_number", "_law_note_here"] ["_law_value", "_law_number"] (defScope s__law_is_commit) := ⟨rfl, rfl, rfl, by decide +kernel, rfl, by decide +kernel, by decide +kernel⟩
-- _law_is_commit: 0 _law_value, 1 _law_number, 2 _law_note_here
abbrev s__law_is_history : Stmt := topS 31
theorem sc__law_is_history : FnScope ["_law_value", "_law_k"] ["_law_value"] (defScope s__law_is_history) := ⟨rfl, rfl, rfl, by decide +kernel, rfl, by decide +kernel, by decide +kernel⟩
-- _law_is_history: 0 _law_value*, 1 _law_k
abbrev s__law_odd : Stmt := topS 32
theorem sc__law_odd : FnScope ["_law_well_here", "_law_odd_here"] ["_law_well_here"] (defScope s__law_odd) := ⟨rfl, rfl, rfl, by decide +kernel, rfl, by decide +kernel, by decide +kernel⟩
-- _law_odd: 0 _law_well_here, 1 _law_odd_here
abbrev s__law_put : Stmt := topS 33
theorem sc__law_put : FnScope ["_law_value", "_law_at", "_law_part"] ["_law_value", "_law_at", "_law_part"] (defScope s__law_put) := ⟨rfl, rfl, rfl, by decide +kernel, rfl, by decide +kernel, by decide +kernel⟩
-- _law_put: 0 _law_value, 1 _law_at, 2 _law_part
abbrev s__law_odd_rows : Stmt := topS 34
theorem sc__law_odd_rows : FnScope ["_law_well_here", "_law_rows", "_law_at", "_law_more", "_law_last"] ["_law_well_here", "_law_rows"] (defScope s__law_odd_rows) := ⟨rfl, rfl, rfl, by decide +kernel, rfl, by decide +kernel, by decide +kernel⟩
-- _law_odd_rows: 0 _law_well_here, 1 _law_rows, 2 _law_at, 3 _law_more, 4 _law_last
abbrev s__law_odd_note : Stmt := topS 35
theorem sc__law_odd_note : FnScope ["_law_well_here", "_law_note_here", "_law_way"] ["_law_well_here", "_law_note_here"] (defScope s__law_odd_note) := ⟨rfl, rfl, rfl, by decide +kernel, rfl, by decide +kernel, by decide +kernel⟩
-- _law_odd_note: 0 _law_well_here, 1 _law_note_here, 2 _law_way
abbrev s__law_odd_commit : Stmt := topS 36
theorem sc__law_odd_commit : FnScope ["_law_well_here", "_law_commit", "_law_number", "_law_way", "_law_far", "_law_at"] ["_law_well_here", "_law_commit", "_law_number"] (defScope s__law_odd_commit) := ⟨rfl, rfl, rfl, by decide +kernel, rfl, by decide +kernel, by decide +kernel⟩
-- _law_odd_commit: 0 _law_well_here, 1 _law_commit, 2 _law_number, 3 _law_way, 4 _law_far, 5 _law_at
abbrev s__law_right : Stmt := topS 37
theorem sc__law_right : FnScope ["_law_value", "_law_kept"] ["_law_value"] (defScope s__law_right) := ⟨rfl, rfl, rfl, by decide +kernel, rfl, by decide +kernel, by decide +kernel⟩
-- _law_right: 0 _law_value, 1 _law_kept
abbrev s_law : Stmt := topS 38
theorem sc_law : FnScope ["_law_script", "_law_cell", "_law_well_here", "_law_pool_here", "_law_history_here", "_law_commit", "_law_values", "_law_turn", "_law_note_here", "_law_at", "_law_value"] ["_law_script"] (defScope s_law) := ⟨rfl, rfl, rfl, by decide +kernel, rfl, by decide +kernel, by decide +kernel⟩
-- law: 0 _law_script, 1 _law_cell, 2 _law_well_here, 3 _law_pool_here, 4 _law_history_here, 5 _law_commit, 6 _law_values, 7 _law_turn, 8 _law_note_here, 9 _law_at, 10 _law_value
/-! ### the facts -/
def g_kb_is_note_0 : List Value → List Value → List Value
  | [], [y0] => [y0]
  | _, _ => []
def gV_kb_is_note_0 : List V → List V → List V
  | [], [y0] => [y0]
  | _, _ => []
def g_kb_is_history_0 : List Value → List Value → List Value
  | [], [y0] => [y0]
  | _, _ => []
def gV_kb_is_history_0 : List V → List V → List V
  | [], [y0] => [y0]
  | _, _ => []
structure Fx (K : PySem.W.Frag) (mg : Str → Option Value) where
  a_is_text : Addr
  fd_is_text : FuncData
  F_is_text : Fun K "is_text" "is_text" s_is_text a_is_text fd_is_text
  g_is_text : mg "is_text" = some (.ref a_is_text)
  b_is_text : Binds K fd_is_text ["value"] []
  a_is_changes : Addr
  fd_is_changes : FuncData
  F_is_changes : Fun K "is_changes" "is_changes" s_is_changes a_is_changes fd_is_changes
  g_is_changes : mg "is_changes" = some (.ref a_is_changes)
  b_is_changes : Binds K fd_is_changes ["value"] []
  a_is_change : Addr
  fd_is_change : FuncData
  F_is_change : Fun K "is_change" "is_change" s_is_change a_is_change fd_is_change
  g_is_change : mg "is_change" = some (.ref a_is_change)
  b_is_change : Binds K fd_is_change ["value"] []
  a_is_entries : Addr
  fd_is_entries : FuncData
  F_is_entries : Fun K "is_entries" "is_entries" s_is_entries a_is_entries fd_is_entries
  g_is_entries : mg "is_entries" = some (.ref a_is_entries)
  b_is_entries : Binds K fd_is_entries ["value"] []
  a_is_number : Addr
  fd_is_number : FuncData
  F_is_number : Fun K "is_number" "is_number" s_is_number a_is_number fd_is_number
  g_is_number : mg "is_number" = some (.ref a_is_number)
  b_is_number : Binds K fd_is_number ["value", "low", "high"] []
  a_is_note : Addr
  fd_is_note : FuncData
  F_is_note : Fun K "is_note" "is_note" s_is_note a_is_note fd_is_note
  g_is_note : mg "is_note" = some (.ref a_is_note)
  b_is_note : Binds K fd_is_note ["value"] []
  a_is_bound : Addr
  fd_is_bound : FuncData
  F_is_bound : Fun K "is_bound" "is_bound" s_is_bound a_is_bound fd_is_bound
  g_is_bound : mg "is_bound" = some (.ref a_is_bound)
  b_is_bound : Binds K fd_is_bound ["value"] []
  a_is_history : Addr
  fd_is_history : FuncData
  F_is_history : Fun K "is_history" "is_history" s_is_history a_is_history fd_is_history
  g_is_history : mg "is_history" = some (.ref a_is_history)
  b_is_history : Binds K fd_is_history ["value"] []
  a_is_commit : Addr
  fd_is_commit : FuncData
  F_is_commit : Fun K "is_commit" "is_commit" s_is_commit a_is_commit fd_is_commit
  g_is_commit : mg "is_commit" = some (.ref a_is_commit)
  b_is_commit : Binds K fd_is_commit ["number", "value"] []
  a__law_well : Addr
  fd__law_well : FuncData
  F__law_well : Fun K "_law_well" "_law_well" s__law_well a__law_well fd__law_well
  g__law_well : mg "_law_well" = some (.ref a__law_well)
  b__law_well : Binds K fd__law_well ["_law_cell"] []
  a__law_dip : Addr
  fd__law_dip : FuncData
  F__law_dip : Fun K "_law_dip" "_law_dip" s__law_dip a__law_dip fd__law_dip
  g__law_dip : mg "_law_dip" = some (.ref a__law_dip)
  b__law_dip : Binds K fd__law_dip ["_law_well_here", "_law_many"] []
  a__law_same : Addr
  fd__law_same : FuncData
  F__law_same : Fun K "_law_same" "_law_same" s__law_same a__law_same fd__law_same
  g__law_same : mg "_law_same" = some (.ref a__law_same)
  b__law_same : Binds K fd__law_same ["_law_found", "_law_due"] []
  a__law_word : Addr
  fd__law_word : FuncData
  F__law_word : Fun K "_law_word" "_law_word" s__law_word a__law_word fd__law_word
  g__law_word : mg "_law_word" = some (.ref a__law_word)
  b__law_word : Binds K fd__law_word ["_law_well_here", "_law_most"] []
  a__law_pool : Addr
  fd__law_pool : FuncData
  F__law_pool : Fun K "_law_pool" "_law_pool" s__law_pool a__law_pool fd__law_pool
  g__law_pool : mg "_law_pool" = some (.ref a__law_pool)
  b__law_pool : Binds K fd__law_pool ["_law_well_here", "_law_many"] []
  a__law_has : Addr
  fd__law_has : FuncData
  F__law_has : Fun K "_law_has" "_law_has" s__law_has a__law_has fd__law_has
  g__law_has : mg "_law_has" = some (.ref a__law_has)
  b__law_has : Binds K fd__law_has ["_law_note_here", "_law_key"] []
  a__law_given : Addr
  fd__law_given : FuncData
  F__law_given : Fun K "_law_given" "_law_given" s__law_given a__law_given fd__law_given
  g__law_given : mg "_law_given" = some (.ref a__law_given)
  b__law_given : Binds K fd__law_given ["_law_rows", "_law_note_here"] []
  a__law_note : Addr
  fd__law_note : FuncData
  F__law_note : Fun K "_law_note" "_law_note" s__law_note a__law_note fd__law_note
  g__law_note : mg "_law_note" = some (.ref a__law_note)
  b__law_note : Binds K fd__law_note ["_law_well_here", "_law_pool_here", "_law_rows"] []
  a__law_laid : Addr
  fd__law_laid : FuncData
  F__law_laid : Fun K "_law_laid" "_law_laid" s__law_laid a__law_laid fd__law_laid
  g__law_laid : mg "_law_laid" = some (.ref a__law_laid)
  b__law_laid : Binds K fd__law_laid ["_law_rows", "_law_changes_here"] []
  a__law_changes : Addr
  fd__law_changes : FuncData
  F__law_changes : Fun K "_law_changes" "_law_changes" s__law_changes a__law_changes fd__law_changes
  g__law_changes : mg "_law_changes" = some (.ref a__law_changes)
  b__law_changes : Binds K fd__law_changes ["_law_well_here", "_law_keys", "_law_most"] []
  a__law_barred : Addr
  fd__law_barred : FuncData
  F__law_barred : Fun K "_law_barred" "_law_barred" s__law_barred a__law_barred fd__law_barred
  g__law_barred : mg "_law_barred" = some (.ref a__law_barred)
  b__law_barred : Binds K fd__law_barred ["_law_commits"] []
  a__law_history : Addr
  fd__law_history : FuncData
  F__law_history : Fun K "_law_history" "_law_history" s__law_history a__law_history fd__law_history
  g__law_history : mg "_law_history" = some (.ref a__law_history)
  b__law_history : Binds K fd__law_history ["_law_well_here", "_law_pool_here", "_law_rows", "_law_many", "_law_most"] []
  a__law_is_text : Addr
  fd__law_is_text : FuncData
  F__law_is_text : Fun K "_law_is_text" "_law_is_text" s__law_is_text a__law_is_text fd__law_is_text
  g__law_is_text : mg "_law_is_text" = some (.ref a__law_is_text)
  b__law_is_text : Binds K fd__law_is_text ["_law_value"] []
  a__law_is_row : Addr
  fd__law_is_row : FuncData
  F__law_is_row : Fun K "_law_is_row" "_law_is_row" s__law_is_row a__law_is_row fd__law_is_row
  g__law_is_row : mg "_law_is_row" = some (.ref a__law_is_row)
  b__law_is_row : Binds K fd__law_is_row ["_law_row", "_law_may_go"] []
  a__law_are_rows : Addr
  fd__law_are_rows : FuncData
  F__law_are_rows : Fun K "_law_are_rows" "_law_are_rows" s__law_are_rows a__law_are_rows fd__law_are_rows
  g__law_are_rows : mg "_law_are_rows" = some (.ref a__law_are_rows)
  b__law_are_rows : Binds K fd__law_are_rows ["_law_value", "_law_may_go"] []
  a__law_is_note : Addr
  fd__law_is_note : FuncData
  F__law_is_note : Fun K "_law_is_note" "_law_is_note" s__law_is_note a__law_is_note fd__law_is_note
  g__law_is_note : mg "_law_is_note" = some (.ref a__law_is_note)
  b__law_is_note : Binds K fd__law_is_note ["_law_value"] []
  a__law_is_commit : Addr
  fd__law_is_commit : FuncData
  F__law_is_commit : Fun K "_law_is_commit" "_law_is_commit" s__law_is_commit a__law_is_commit fd__law_is_commit
  g__law_is_commit : mg "_law_is_commit" = some (.ref a__law_is_commit)
  b__law_is_commit : Binds K fd__law_is_commit ["_law_value", "_law_number"] []
  a__law_is_history : Addr
  fd__law_is_history : FuncData
  F__law_is_history : Fun K "_law_is_history" "_law_is_history" s__law_is_history a__law_is_history fd__law_is_history
  g__law_is_history : mg "_law_is_history" = some (.ref a__law_is_history)
  b__law_is_history : Binds K fd__law_is_history ["_law_value"] []
  a__law_odd : Addr
  fd__law_odd : FuncData
  F__law_odd : Fun K "_law_odd" "_law_odd" s__law_odd a__law_odd fd__law_odd
  g__law_odd : mg "_law_odd" = some (.ref a__law_odd)
  b__law_odd : Binds K fd__law_odd ["_law_well_here"] []
  a__law_put : Addr
  fd__law_put : FuncData
  F__law_put : Fun K "_law_put" "_law_put" s__law_put a__law_put fd__law_put
  g__law_put : mg "_law_put" = some (.ref a__law_put)
  b__law_put : Binds K fd__law_put ["_law_value", "_law_at", "_law_part"] []
  a__law_odd_rows : Addr
  fd__law_odd_rows : FuncData
  F__law_odd_rows : Fun K "_law_odd_rows" "_law_odd_rows" s__law_odd_rows a__law_odd_rows fd__law_odd_rows
  g__law_odd_rows : mg "_law_odd_rows" = some (.ref a__law_odd_rows)
  b__law_odd_rows : Binds K fd__law_odd_rows ["_law_well_here", "_law_rows"] []
  a__law_odd_note : Addr
  fd__law_odd_note : FuncData
  F__law_odd_note : Fun K "_law_odd_note" "_law_odd_note" s__law_odd_note a__law_odd_note fd__law_odd_note
  g__law_odd_note : mg "_law_odd_note" = some (.ref a__law_odd_note)
  b__law_odd_note : Binds K fd__law_odd_note ["_law_well_here", "_law_note_here"] []
  a__law_odd_commit : Addr
  fd__law_odd_commit : FuncData
  F__law_odd_commit : Fun K "_law_odd_commit" "_law_odd_commit" s__law_odd_commit a__law_odd_commit fd__law_odd_commit
  g__law_odd_commit : mg "_law_odd_commit" = some (.ref a__law_odd_commit)
  b__law_odd_commit : Binds K fd__law_odd_commit ["_law_well_here", "_law_commit", "_law_number"] []
  a__law_right : Addr
  fd__law_right : FuncData
  F__law_right : Fun K "_law_right" "_law_right" s__law_right a__law_right fd__law_right
  g__law_right : mg "_law_right" = some (.ref a__law_right)
  b__law_right : Binds K fd__law_right ["_law_value"] []
  a_law : Addr
  fd_law : FuncData
  F_law : Fun K "law" "law" s_law a_law fd_law
  g_law : mg "law" = some (.ref a_law)
  b_law : Binds K fd_law ["_law_script"] []
  kb_is_note_0 : KBinds K fd_is_note ["value"] ["value"] g_kb_is_note_0 gV_kb_is_note_0
  kb_is_history_0 : KBinds K fd_is_history ["value"] ["value"] g_kb_is_history_0 gV_kb_is_history_0
  m_all : mg "all" = none
  m_bool : mg "bool" = none
  m_dict : mg "dict" = none
  m_enumerate : mg "enumerate" = none
  m_int : mg "int" = none
  m_isinstance : mg "isinstance" = none
  m_len : mg "len" = none
  m_list : mg "list" = none
  m_range : mg "range" = none
  m_repr : mg "repr" = none
  m_sorted : mg "sorted" = none
  m_str : mg "str" = none
  m_tuple : mg "tuple" = none
  m_type : mg "type" = none
  m_zip : mg "zip" = none

/-! ### the bodies -/
section
variable {P : Program} {w : World} {K : PySem.W.Frag} {mg : Str → Option Value} {base : Heap}
def t_is_text (K : PySem.W.Frag)  : TS :=
    (tRet (tAndV (tOp (rIS K) (tCB (rTyp K) (tCons (tVar 0) tNil)) (tC (.ty "str"))) (tAndV (tBM0 K "str" rM_isascii (tVar 0)) (tBM0 K "str" rM_isprintable (tVar 0)))))
theorem b_is_text (Y : Fx K mg)   {f : Addr} {cdv : Value} {A : Around} {outer : List Env} {s : Shared} {H : Hp} {E : XK} (hr : Room 0 (A.deeper (envOfC "is_text" (defScope s_is_text) s.heap.objs.size f cdv))) :
    PSs (cxOf CX0 P w K mg base ["value"] "is_text" (defScope s_is_text) f cdv A outer s H E).nox (defBody s_is_text) (t_is_text K ) :=
    (pss_one (ps_ret (pe_and (pe_cmpR op_IS (pe_callTy call_type1 (by rfl) Y.m_type (by decide +kernel) (pa_cons (pv 0) pa_nil)) (pe_bltn (v := .ty "str") (by rfl) Y.m_str (by decide +kernel) rfl) (nomark _)) (pe_and (pe_bm0 PySem.F.plainAttrs_str PySem.F.slot_str_isascii PySem.F.type_str_isascii mt_isascii (pv 0)) (pe_one (pe_bm0 PySem.F.plainAttrs_str PySem.F.slot_str_isprintable PySem.F.type_str_isprintable mt_isprintable (pv 0)))))))
def t_is_changes (K : PySem.W.Frag) (sp_is_change : PySem.W.Frag → Sp) : TS :=
    (tSeq (tIfS (tOr (tTest (tOp (rISN K) (tCB (rTyp K) (tCons (tVar 0) tNil)) (tC (.ty "tuple")))) (tNot (tTru1 K (tCB (rAll K) (tCons (tLc (iTup K (tVar 0)) (gName 1) tYes (tCall (sp_is_change K) [] E0 (tCons (tVar 1) tNil)) [1]) tNil))))) (tRet (tC (.bl false))) tNext)
    (tSeq (tAsg (tLc (iTup K (tVar 0)) (gTup K 2 (gCons (gName 3) (gCons (gName 4) gNil))) tYes (tVar 3) [3, 4]) (gName 2))
    (tRet (tCB (rAll K) (tCons (tLc (iZip K (tCons (tVar 2) (tCons (tSl (rSL K) (tVar 2) (tPart (tC (.int 1))) tNoPart) tNil))) (gTup K 2 (gCons (gName 5) (gCons (gName 6) gNil))) tYes (tOp rLT (tVar 5) (tVar 6)) [5, 6]) tNil)))))
theorem b_is_changes (Y : Fx K mg) {sp_is_change : PySem.W.Frag → Sp} (G_is_change : FnOk P w K mg base CX0 2 Y.a_is_change Y.fd_is_change ["value"] (sp_is_change K)) {f : Addr} {cdv : Value} {A : Around} {outer : List Env} {s : Shared} {H : Hp} {E : XK} (hr : Room 2 (A.deeper (envOfC "is_changes" (defScope s_is_changes) s.heap.objs.size f cdv))) :
    PSs (cxOf CX0 P w K mg base ["value", "change", "keys", "key", "_", "one", "other"] "is_changes" (defScope s_is_changes) f cdv A outer s H E).nox (defBody s_is_changes) (t_is_changes K sp_is_change) :=
    (pss_cons (ps_if (PW.pt (pw_or (pt_cmpR op_ISN (pe_callTy call_type1 (by rfl) Y.m_type (by decide +kernel) (pa_cons (pv 0) pa_nil)) (pe_bltn (v := .ty "tuple") (by rfl) Y.m_tuple (by decide +kernel) rfl) (nomark _)) (pw_or1 (pt_not (pt_tru (pe_callB (cr_all rfl) (by rfl) Y.m_all (by decide +kernel) (pa_cons (pe_lc (own := [("change", 1)]) (by rfl) sc_is_changes.nd (pi_tup (pv 0)) (blkOk_by (own := [("change", 1)]) (N := ["value", "change", "keys", "key", "_", "one", "other"]) (sc := defScope s_is_changes) (by decide +kernel)) (fun _ _ _ _ _ => (pg_name (i := 1) sc_is_changes.nd rfl (Or.inl rfl))) (fun _ _ _ _ _ => pts_nil) (fun _ _ _ _ _ => (pe_call G_is_change (hr.mono (by decide)) (by rfl) Y.g_is_change Y.F_is_change.kp Y.b_is_change .nil pass0 (pa_cons (pv 1) pa_nil)))) pa_nil)) (by intro _; rfl)))))) (pss_one (ps_ret pe_bl)) pss_nil)
    (pss_cons (ps_setLc (i := 2) (own := [("key", 3), ("_", 4)]) (by rfl) sc_is_changes.nd rfl rfl (sw_true rfl rfl rfl (by decide +kernel)) (pi_tup (pv 0)) (blkOk_by (own := [("key", 3), ("_", 4)]) (N := ["value", "change", "keys", "key", "_", "one", "other"]) (sc := defScope s_is_changes) (by decide +kernel)) (fun _ _ _ _ _ => (pg_tup rfl (pgs_cons (pg_name (i := 3) sc_is_changes.nd rfl (Or.inl rfl)) (pgs_cons (pg_name (i := 4) sc_is_changes.nd rfl (Or.inl rfl)) pgs_nil)))) (fun _ _ _ _ _ => pts_nil) (fun _ _ _ _ _ => (pv 3)))
    (pss_one (ps_ret (pe_callB (cr_all rfl) (by rfl) Y.m_all (by decide +kernel) (pa_cons (pe_lc (own := [("one", 5), ("other", 6)]) (by rfl) sc_is_changes.nd (pi_zip (by rfl) Y.m_zip (pa_cons (pv 2) (pa_cons (pe_slice sl_SEQ (pv 2) (po_some pe_int) po_none) pa_nil))) (blkOk_by (own := [("one", 5), ("other", 6)]) (N := ["value", "change", "keys", "key", "_", "one", "other"]) (sc := defScope s_is_changes) (by decide +kernel)) (fun _ _ _ _ _ => (pg_tup rfl (pgs_cons (pg_name (i := 5) sc_is_changes.nd rfl (Or.inl rfl)) (pgs_cons (pg_name (i := 6) sc_is_changes.nd rfl (Or.inl rfl)) pgs_nil)))) (fun _ _ _ _ _ => pts_nil) (fun _ _ _ _ _ => (pe_cmpR op_LT (pv 5) (pv 6) (nomark _)))) pa_nil))))))
def t_is_change (K : PySem.W.Frag) (sp_is_text : PySem.W.Frag → Sp) : TS :=
    (tSeq (tIfS (tOr (tTest (tOp (rISN K) (tCB (rTyp K) (tCons (tVar 0) tNil)) (tC (.ty "tuple")))) (tTest (tOp (rNE K) (tCB (rLEN K) (tCons (tVar 0) tNil)) (tC (.int 2))))) (tRet (tC (.bl false))) tNext)
    (tRet (tAndV (tCall (sp_is_text K) [] E0 (tCons (tOp (rIX K) (tVar 0) (tC (.int 0))) tNil)) (tOrV (tOp (rIS K) (tOp (rIX K) (tVar 0) (tC (.int 1))) (tC .non)) (tCall (sp_is_text K) [] E0 (tCons (tOp (rIX K) (tVar 0) (tC (.int 1))) tNil))))))
theorem b_is_change (Y : Fx K mg) {sp_is_text : PySem.W.Frag → Sp} (G_is_text : FnOk P w K mg base CX0 1 Y.a_is_text Y.fd_is_text ["value"] (sp_is_text K)) {f : Addr} {cdv : Value} {A : Around} {outer : List Env} {s : Shared} {H : Hp} {E : XK} (hr : Room 1 (A.deeper (envOfC "is_change" (defScope s_is_change) s.heap.objs.size f cdv))) :
    PSs (cxOf CX0 P w K mg base ["value"] "is_change" (defScope s_is_change) f cdv A outer s H E).nox (defBody s_is_change) (t_is_change K sp_is_text) :=
    (pss_cons (ps_if (PW.pt (pw_or (pt_cmpR op_ISN (pe_callTy call_type1 (by rfl) Y.m_type (by decide +kernel) (pa_cons (pv 0) pa_nil)) (pe_bltn (v := .ty "tuple") (by rfl) Y.m_tuple (by decide +kernel) rfl) (nomark _)) (pw_or1 (pt_cmpR (op_NE (hu_64 hr)) (pe_callB call_LEN (by rfl) Y.m_len (by decide +kernel) (pa_cons (pv 0) pa_nil)) pe_int (nomark _))))) (pss_one (ps_ret pe_bl)) pss_nil)
    (pss_one (ps_ret (pe_and (pe_call G_is_text (hr.mono (by decide)) (by rfl) Y.g_is_text Y.F_is_text.kp Y.b_is_text .nil pass0 (pa_cons (pe_ix ix_SEQ (pv 0) pe_int (fun _ _ => rfl)) pa_nil)) (pe_one (pe_or (pe_cmpR op_IS (pe_ix ix_SEQ (pv 0) pe_int (fun _ _ => rfl)) pe_non (nomark _)) (pe_one (pe_call G_is_text (hr.mono (by decide)) (by rfl) Y.g_is_text Y.F_is_text.kp Y.b_is_text .nil pass0 (pa_cons (pe_ix ix_SEQ (pv 0) pe_int (fun _ _ => rfl)) pa_nil)))))))))
def t_is_entries (K : PySem.W.Frag) (sp_is_changes : PySem.W.Frag → Sp) : TS :=
    (tRet (tAndV (tCall (sp_is_changes K) [] E0 (tCons (tVar 0) tNil)) (tCB (rAll K) (tCons (tLc (iTup K (tVar 0)) (gTup K 2 (gCons (gName 1) (gCons (gName 2) gNil))) tYes (tOp (rISN K) (tVar 2) (tC .non)) [1, 2]) tNil))))
theorem b_is_entries (Y : Fx K mg) {sp_is_changes : PySem.W.Frag → Sp} (G_is_changes : FnOk P w K mg base CX0 3 Y.a_is_changes Y.fd_is_changes ["value"] (sp_is_changes K)) {f : Addr} {cdv : Value} {A : Around} {outer : List Env} {s : Shared} {H : Hp} {E : XK} (hr : Room 3 (A.deeper (envOfC "is_entries" (defScope s_is_entries) s.heap.objs.size f cdv))) :
    PSs (cxOf CX0 P w K mg base ["value", "_", "text"] "is_entries" (defScope s_is_entries) f cdv A outer s H E).nox (defBody s_is_entries) (t_is_entries K sp_is_changes) :=
    (pss_one (ps_ret (pe_and (pe_call G_is_changes (hr.mono (by decide)) (by rfl) Y.g_is_changes Y.F_is_changes.kp Y.b_is_changes .nil pass0 (pa_cons (pv 0) pa_nil)) (pe_one (pe_callB (cr_all rfl) (by rfl) Y.m_all (by decide +kernel) (pa_cons (pe_lc (own := [("_", 1), ("text", 2)]) (by rfl) sc_is_entries.nd (pi_tup (pv 0)) (blkOk_by (own := [("_", 1), ("text", 2)]) (N := ["value", "_", "text"]) (sc := defScope s_is_entries) (by decide +kernel)) (fun _ _ _ _ _ => (pg_tup rfl (pgs_cons (pg_name (i := 1) sc_is_entries.nd rfl (Or.inl rfl)) (pgs_cons (pg_name (i := 2) sc_is_entries.nd rfl (Or.inl rfl)) pgs_nil)))) (fun _ _ _ _ _ => pts_nil) (fun _ _ _ _ _ => (pe_cmpR op_ISN (pv 2) pe_non (nomark _)))) pa_nil))))))
def t_is_number (K : PySem.W.Frag)  : TS :=
    (tRet (tAndV (tOp (rIS K) (tCB (rTyp K) (tCons (tVar 0) tNil)) (tC (.ty "int"))) (tChain rLE rLE (tVar 1) (tVar 0) (tVar 2))))
theorem b_is_number (Y : Fx K mg)   {f : Addr} {cdv : Value} {A : Around} {outer : List Env} {s : Shared} {H : Hp} {E : XK} (hr : Room 0 (A.deeper (envOfC "is_number" (defScope s_is_number) s.heap.objs.size f cdv))) :
    PSs (cxOf CX0 P w K mg base ["value", "low", "high"] "is_number" (defScope s_is_number) f cdv A outer s H E).nox (defBody s_is_number) (t_is_number K ) :=
    (pss_one (ps_ret (pe_and (pe_cmpR op_IS (pe_callTy call_type1 (by rfl) Y.m_type (by decide +kernel) (pa_cons (pv 0) pa_nil)) (pe_bltn (v := .ty "int") (by rfl) Y.m_int (by decide +kernel) rfl) (nomark _)) (pe_one (pe_chain op_LE op_LE (pv 1) (pv 0) (pv 2))))))
def t_is_note (K : PySem.W.Frag) (sp_is_bound : PySem.W.Frag → Sp) (sp_is_entries : PySem.W.Frag → Sp) (sp_is_text : PySem.W.Frag → Sp) : TS :=
    (tSeq (tIfS (tOr (tTest (tOp (rISN K) (tCB (rTyp K) (tCons (tVar 0) tNil)) (tC (.ty "tuple")))) (tNot (tTru1 K (tVar 0)))) (tRet (tC (.bl false))) tNext)
    (tSeq (tIfS (tTest (tOp (rEQ K) (tOp (rIX K) (tVar 0) (tC (.int 0))) (tC (.str "value")))) (tRet (tAndV (tOp (rEQ K) (tCB (rLEN K) (tCons (tVar 0) tNil)) (tC (.int 3))) (tAndV (tCall (sp_is_text K) [] E0 (tCons (tOp (rIX K) (tVar 0) (tC (.int 1))) tNil)) (tCall (sp_is_bound K) [] E0 (tCons (tOp (rIX K) (tVar 0) (tC (.int 2))) tNil))))) tNext)
    (tSeq (tIfS (tOr (tTest (tOp (rNE K) (tOp (rIX K) (tVar 0) (tC (.int 0))) (tC (.str "entries")))) (tTest (tOp (rNE K) (tCB (rLEN K) (tCons (tVar 0) tNil)) (tC (.int 4))))) (tRet (tC (.bl false))) tNext)
    (tRet (tAndV (tCall (sp_is_bound K) [] E0 (tCons (tOp (rIX K) (tVar 0) (tC (.int 1))) tNil)) (tAndV (tCall (sp_is_bound K) [] E0 (tCons (tOp (rIX K) (tVar 0) (tC (.int 2))) tNil)) (tCall (sp_is_entries K) [] E0 (tCons (tOp (rIX K) (tVar 0) (tC (.int 3))) tNil))))))))
theorem b_is_note (Y : Fx K mg) {sp_is_bound : PySem.W.Frag → Sp} {sp_is_entries : PySem.W.Frag → Sp} {sp_is_text : PySem.W.Frag → Sp} (G_is_bound : FnOk P w K mg base CX0 2 Y.a_is_bound Y.fd_is_bound ["value"] (sp_is_bound K)) (G_is_entries : FnOk P w K mg base CX0 4 Y.a_is_entries Y.fd_is_entries ["value"] (sp_is_entries K)) (G_is_text : FnOk P w K mg base CX0 1 Y.a_is_text Y.fd_is_text ["value"] (sp_is_text K)) {f : Addr} {cdv : Value} {A : Around} {outer : List Env} {s : Shared} {H : Hp} {E : XK} (hr : Room 4 (A.deeper (envOfC "is_note" (defScope s_is_note) s.heap.objs.size f cdv))) :
    PSs (cxOf CX0 P w K mg base ["value"] "is_note" (defScope s_is_note) f cdv A outer s H E).nox (defBody s_is_note) (t_is_note K sp_is_bound sp_is_entries sp_is_text) :=
    (pss_cons (ps_if (PW.pt (pw_or (pt_cmpR op_ISN (pe_callTy call_type1 (by rfl) Y.m_type (by decide +kernel) (pa_cons (pv 0) pa_nil)) (pe_bltn (v := .ty "tuple") (by rfl) Y.m_tuple (by decide +kernel) rfl) (nomark _)) (pw_or1 (pt_not (pt_tru (pv 0) (by intro _; rfl)))))) (pss_one (ps_ret pe_bl)) pss_nil)
    (pss_cons (ps_if (pt_cmpR (op_EQ (hu_64 hr)) (pe_ix ix_SEQ (pv 0) pe_int (fun _ _ => rfl)) pe_str (nomark _)) (pss_one (ps_ret (pe_and (pe_cmpR (op_EQ (hu_64 hr)) (pe_callB call_LEN (by rfl) Y.m_len (by decide +kernel) (pa_cons (pv 0) pa_nil)) pe_int (nomark _)) (pe_and (pe_call G_is_text (hr.mono (by decide)) (by rfl) Y.g_is_text Y.F_is_text.kp Y.b_is_text .nil pass0 (pa_cons (pe_ix ix_SEQ (pv 0) pe_int (fun _ _ => rfl)) pa_nil)) (pe_one (pe_call G_is_bound (hr.mono (by decide)) (by rfl) Y.g_is_bound Y.F_is_bound.kp Y.b_is_bound .nil pass0 (pa_cons (pe_ix ix_SEQ (pv 0) pe_int (fun _ _ => rfl)) pa_nil))))))) pss_nil)
    (pss_cons (ps_if (PW.pt (pw_or (pt_cmpR (op_NE (hu_64 hr)) (pe_ix ix_SEQ (pv 0) pe_int (fun _ _ => rfl)) pe_str (nomark _)) (pw_or1 (pt_cmpR (op_NE (hu_64 hr)) (pe_callB call_LEN (by rfl) Y.m_len (by decide +kernel) (pa_cons (pv 0) pa_nil)) pe_int (nomark _))))) (pss_one (ps_ret pe_bl)) pss_nil)
    (pss_one (ps_ret (pe_and (pe_call G_is_bound (hr.mono (by decide)) (by rfl) Y.g_is_bound Y.F_is_bound.kp Y.b_is_bound .nil pass0 (pa_cons (pe_ix ix_SEQ (pv 0) pe_int (fun _ _ => rfl)) pa_nil)) (pe_and (pe_call G_is_bound (hr.mono (by decide)) (by rfl) Y.g_is_bound Y.F_is_bound.kp Y.b_is_bound .nil pass0 (pa_cons (pe_ix ix_SEQ (pv 0) pe_int (fun _ _ => rfl)) pa_nil)) (pe_one (pe_call G_is_entries (hr.mono (by decide)) (by rfl) Y.g_is_entries Y.F_is_entries.kp Y.b_is_entries .nil pass0 (pa_cons (pe_ix ix_SEQ (pv 0) pe_int (fun _ _ => rfl)) pa_nil))))))))))
def t_is_bound (K : PySem.W.Frag) (sp_is_text : PySem.W.Frag → Sp) : TS :=
    (tRet (tOrV (tOp (rIS K) (tVar 0) (tC .non)) (tCall (sp_is_text K) [] E0 (tCons (tVar 0) tNil))))
theorem b_is_bound (Y : Fx K mg) {sp_is_text : PySem.W.Frag → Sp} (G_is_text : FnOk P w K mg base CX0 1 Y.a_is_text Y.fd_is_text ["value"] (sp_is_text K)) {f : Addr} {cdv : Value} {A : Around} {outer : List Env} {s : Shared} {H : Hp} {E : XK} (hr : Room 1 (A.deeper (envOfC "is_bound" (defScope s_is_bound) s.heap.objs.size f cdv))) :
    PSs (cxOf CX0 P w K mg base ["value"] "is_bound" (defScope s_is_bound) f cdv A outer s H E).nox (defBody s_is_bound) (t_is_bound K sp_is_text) :=
    (pss_one (ps_ret (pe_or (pe_cmpR op_IS (pv 0) pe_non (nomark _)) (pe_one (pe_call G_is_text (hr.mono (by decide)) (by rfl) Y.g_is_text Y.F_is_text.kp Y.b_is_text .nil pass0 (pa_cons (pv 0) pa_nil))))))
def t_is_history (K : PySem.W.Frag) (sp_is_commit : PySem.W.Frag → Sp) : TS :=
    (tSeq (tIfS (tTest (tOp (rISN K) (tCB (rTyp K) (tCons (tVar 0) tNil)) (tC (.ty "tuple")))) (tRet (tC (.bl false))) tNext)
    (tRet (tCB (rAll K) (tCons (tLc (iEnumS K (tCons (tVar 0) tNil) (tCons (tC (.int 1)) tNil)) (gTup K 2 (gCons (gName 1) (gCons (gName 2) gNil))) tYes (tCall (sp_is_commit K) [] E0 (tCons (tVar 1) (tCons (tVar 2) tNil))) [1, 2]) tNil))))
theorem b_is_history (Y : Fx K mg) {sp_is_commit : PySem.W.Frag → Sp} (G_is_commit : FnOk P w K mg base CX0 6 Y.a_is_commit Y.fd_is_commit ["number", "value"] (sp_is_commit K)) {f : Addr} {cdv : Value} {A : Around} {outer : List Env} {s : Shared} {H : Hp} {E : XK} (hr : Room 6 (A.deeper (envOfC "is_history" (defScope s_is_history) s.heap.objs.size f cdv))) :
    PSs (cxOf CX0 P w K mg base ["value", "number", "commit"] "is_history" (defScope s_is_history) f cdv A outer s H E).nox (defBody s_is_history) (t_is_history K sp_is_commit) :=
    (pss_cons (ps_if (pt_cmpR op_ISN (pe_callTy call_type1 (by rfl) Y.m_type (by decide +kernel) (pa_cons (pv 0) pa_nil)) (pe_bltn (v := .ty "tuple") (by rfl) Y.m_tuple (by decide +kernel) rfl) (nomark _)) (pss_one (ps_ret pe_bl)) pss_nil)
    (pss_one (ps_ret (pe_callB (cr_all rfl) (by rfl) Y.m_all (by decide +kernel) (pa_cons (pe_lc (own := [("number", 1), ("commit", 2)]) (by rfl) sc_is_history.nd (pi_enumS (by rfl) Y.m_enumerate (pa_cons (pv 0) pa_nil) (pk_cons pe_int pk_nil)) (blkOk_by (own := [("number", 1), ("commit", 2)]) (N := ["value", "number", "commit"]) (sc := defScope s_is_history) (by decide +kernel)) (fun _ _ _ _ _ => (pg_tup rfl (pgs_cons (pg_name (i := 1) sc_is_history.nd rfl (Or.inl rfl)) (pgs_cons (pg_name (i := 2) sc_is_history.nd rfl (Or.inl rfl)) pgs_nil)))) (fun _ _ _ _ _ => pts_nil) (fun _ _ _ _ _ => (pe_call G_is_commit (hr.mono (by decide)) (by rfl) Y.g_is_commit Y.F_is_commit.kp Y.b_is_commit .nil pass0 (pa_cons (pv 1) (pa_cons (pv 2) pa_nil))))) pa_nil)))))
def t_is_commit (K : PySem.W.Frag) (sp_is_changes : PySem.W.Frag → Sp) (sp_is_note : PySem.W.Frag → Sp) (sp_is_number : PySem.W.Frag → Sp) : TS :=
    (tSeq (tIfS (tOr (tTest (tOp (rISN K) (tCB (rTyp K) (tCons (tVar 1) tNil)) (tC (.ty "tuple")))) (tTest (tOp (rNE K) (tCB (rLEN K) (tCons (tVar 1) tNil)) (tC (.int 4))))) (tRet (tC (.bl false))) tNext)
    (tSeq (tAsg (tVar 1) (gTup K 4 (gCons (gName 2) (gCons (gName 3) (gCons (gName 4) (gCons (gName 5) gNil))))))
    (tSeq (tIfS (tOr (tNot (tTru1 K (tCall (sp_is_number K) [] E0 (tCons (tVar 2) (tCons (tC (.int 0)) (tCons (tOp rSUB (tVar 0) (tC (.int 1))) tNil)))))) (tOr (tTest (tOp (rISN K) (tCB (rTyp K) (tCons (tVar 3) tNil)) (tC (.ty "bool")))) (tTest (tOp (rISN K) (tCB (rTyp K) (tCons (tVar 4) tNil)) (tC (.ty "tuple")))))) (tRet (tC (.bl false))) tNext)
    (tRet (tAndV (tCB (rAll K) (tCons (tLc (iTup K (tVar 4)) (gName 6) tYes (tCall (sp_is_note K) [] E0 (tCons (tVar 6) tNil)) [6]) tNil)) (tCall (sp_is_changes K) [] E0 (tCons (tVar 5) tNil)))))))
theorem b_is_commit (Y : Fx K mg) {sp_is_changes : PySem.W.Frag → Sp} {sp_is_note : PySem.W.Frag → Sp} {sp_is_number : PySem.W.Frag → Sp} (G_is_changes : FnOk P w K mg base CX0 3 Y.a_is_changes Y.fd_is_changes ["value"] (sp_is_changes K)) (G_is_note : FnOk P w K mg base CX0 5 Y.a_is_note Y.fd_is_note ["value"] (sp_is_note K)) (G_is_number : FnOk P w K mg base CX0 1 Y.a_is_number Y.fd_is_number ["value", "low", "high"] (sp_is_number K)) {f : Addr} {cdv : Value} {A : Around} {outer : List Env} {s : Shared} {H : Hp} {E : XK} (hr : Room 5 (A.deeper (envOfC "is_commit" (defScope s_is_commit) s.heap.objs.size f cdv))) :
    PSs (cxOf CX0 P w K mg base ["number", "value", "snapshot", "serial", "notes", "changes", "note"] "is_commit" (defScope s_is_commit) f cdv A outer s H E).nox (defBody s_is_commit) (t_is_commit K sp_is_changes sp_is_note sp_is_number) :=
    (pss_cons (ps_if (PW.pt (pw_or (pt_cmpR op_ISN (pe_callTy call_type1 (by rfl) Y.m_type (by decide +kernel) (pa_cons (pv 1) pa_nil)) (pe_bltn (v := .ty "tuple") (by rfl) Y.m_tuple (by decide +kernel) rfl) (nomark _)) (pw_or1 (pt_cmpR (op_NE (hu_64 hr)) (pe_callB call_LEN (by rfl) Y.m_len (by decide +kernel) (pa_cons (pv 1) pa_nil)) pe_int (nomark _))))) (pss_one (ps_ret pe_bl)) pss_nil)
    (pss_cons (ps_asg (pv 1) (pg_tup rfl (pgs_cons (pg_name (i := 2) sc_is_commit.nd rfl (Or.inl rfl)) (pgs_cons (pg_name (i := 3) sc_is_commit.nd rfl (Or.inl rfl)) (pgs_cons (pg_name (i := 4) sc_is_commit.nd rfl (Or.inl rfl)) (pgs_cons (pg_name (i := 5) sc_is_commit.nd rfl (Or.inl rfl)) pgs_nil))))))
    (pss_cons (ps_if (PW.pt (pw_or (pt_not (pt_tru (pe_call G_is_number (hr.mono (by decide)) (by rfl) Y.g_is_number Y.F_is_number.kp Y.b_is_number .nil pass0 (pa_cons (pv 2) (pa_cons pe_int (pa_cons (pe_op op_SUB (pv 0) pe_int) pa_nil)))) (by intro _; rfl))) (pw_or (pt_cmpR op_ISN (pe_callTy call_type1 (by rfl) Y.m_type (by decide +kernel) (pa_cons (pv 3) pa_nil)) (pe_bltn (v := .ty "bool") (by rfl) Y.m_bool (by decide +kernel) rfl) (nomark _)) (pw_or1 (pt_cmpR op_ISN (pe_callTy call_type1 (by rfl) Y.m_type (by decide +kernel) (pa_cons (pv 4) pa_nil)) (pe_bltn (v := .ty "tuple") (by rfl) Y.m_tuple (by decide +kernel) rfl) (nomark _)))))) (pss_one (ps_ret pe_bl)) pss_nil)
    (pss_one (ps_ret (pe_and (pe_callB (cr_all rfl) (by rfl) Y.m_all (by decide +kernel) (pa_cons (pe_lc (own := [("note", 6)]) (by rfl) sc_is_commit.nd (pi_tup (pv 4)) (blkOk_by (own := [("note", 6)]) (N := ["number", "value", "snapshot", "serial", "notes", "changes", "note"]) (sc := defScope s_is_commit) (by decide +kernel)) (fun _ _ _ _ _ => (pg_name (i := 6) sc_is_commit.nd rfl (Or.inl rfl))) (fun _ _ _ _ _ => pts_nil) (fun _ _ _ _ _ => (pe_call G_is_note (hr.mono (by decide)) (by rfl) Y.g_is_note Y.F_is_note.kp Y.b_is_note .nil pass0 (pa_cons (pv 6) pa_nil)))) pa_nil)) (pe_one (pe_call G_is_changes (hr.mono (by decide)) (by rfl) Y.g_is_changes Y.F_is_changes.kp Y.b_is_changes .nil pass0 (pa_cons (pv 5) pa_nil)))))))))
def t__law_well (K : PySem.W.Frag)  : TS :=
    (tSeq (tAsg (tCB rINT (tCons (tVar 0) tNil)) (gName 0))
    (tRet (tLst (tCons (tIf (tTest (tOp rGE (tVar 0) (tOp rPOW (tC (.int 10)) (tC (.int 18))))) (tOp rSUB (tVar 0) (tOp rPOW (tC (.int 10)) (tC (.int 18)))) (tC (.int 0))) (tCons (tOp (rADD K) (tOp rMOD (tVar 0) (tC (.int 1999999973))) (tC (.int 17))) (tCons (tC (.int 0)) tNil))))))
theorem b__law_well (Y : Fx K mg)   {f : Addr} {cdv : Value} {A : Around} {outer : List Env} {s : Shared} {H : Hp} {E : XK} (hr : Room 0 (A.deeper (envOfC "_law_well" (defScope s__law_well) s.heap.objs.size f cdv))) :
    PSs (cxOf CX0 P w K mg base ["_law_cell"] "_law_well" (defScope s__law_well) f cdv A outer s H E).nox (defBody s__law_well) (t__law_well K ) :=
    (pss_cons (ps_set (i := 0) sc__law_well.nd rfl (Or.inl rfl) (pe_callTy call_INT (by rfl) Y.m_int (by decide +kernel) (pa_cons (pv 0) pa_nil)))
    (pss_one (ps_ret (pe_lst (pa_cons (pe_ifExp (pt_cmpR op_GE (pv 0) (pe_op op_POW pe_int pe_int) (nomark _)) (pe_op op_SUB (pv 0) (pe_op op_POW pe_int pe_int)) pe_int) (pa_cons (pe_op op_ADD (pe_op op_MOD (pv 0) pe_int) pe_int) (pa_cons pe_int pa_nil)))))))
def t__law_dip (K : PySem.W.Frag)  : TS :=
    (tSeq (tIfS (tTest (tOp rGT (tOp (rIX K) (tVar 0) (tC (.int 0))) (tC (.int 0)))) (tSeq (tAsg (tOp rMOD (tCB rINT (tCons (tOp (rIX K) (tVar 0) (tC (.int 0))) tNil)) (tVar 1)) (gName 2))
      (tSeq (tAsg (tOp rFDIV (tCB rINT (tCons (tOp (rIX K) (tVar 0) (tC (.int 0))) tNil)) (tVar 1)) (gSub (tVar 0) (tC (.int 0)) rSetL))
      (tRet (tVar 2)))) tNext)
    (tSeq (tAsg (tOp (rADD K) (tOp (rIX K) (tVar 0) (tC (.int 2))) (tC (.int 1))) (gSub (tVar 0) (tC (.int 2)) rSetL))
    (tSeq (tAsg (tOp rMOD (tCB rINT (tCons (tOp (rADD K) (tOp (rADD K) (tOp (rMUL K) (tOp (rIX K) (tVar 0) (tC (.int 1))) (tC (.int 44497))) (tOp (rMUL K) (tOp (rMUL K) (tOp (rIX K) (tVar 0) (tC (.int 2))) (tOp (rIX K) (tVar 0) (tC (.int 2)))) (tC (.int 7001)))) (tC (.int 13))) tNil)) (tC (.int 2147483629))) (gSub (tVar 0) (tC (.int 1)) rSetL))
    (tRet (tOp rMOD (tOp rFDIV (tOp rMOD (tCB rINT (tCons (tOp (rMUL K) (tOp (rIX K) (tVar 0) (tC (.int 1))) (tOp (rIX K) (tVar 0) (tC (.int 1)))) tNil)) (tC (.int 2147483587))) (tC (.int 64))) (tVar 1))))))
theorem b__law_dip (Y : Fx K mg)   {f : Addr} {cdv : Value} {A : Around} {outer : List Env} {s : Shared} {H : Hp} {E : XK} (hr : Room 0 (A.deeper (envOfC "_law_dip" (defScope s__law_dip) s.heap.objs.size f cdv))) :
    PSs (cxOf CX0 P w K mg base ["_law_well_here", "_law_many", "_law_drop"] "_law_dip" (defScope s__law_dip) f cdv A outer s H E).nox (defBody s__law_dip) (t__law_dip K ) :=
    (pss_cons (ps_if (pt_cmpR op_GT (pe_ix ix_SEQ (pv 0) pe_int (fun _ _ => rfl)) pe_int (nomark _)) (pss_cons (ps_set (i := 2) sc__law_dip.nd rfl (Or.inl rfl) (pe_op op_MOD (pe_callTy call_INT (by rfl) Y.m_int (by decide +kernel) (pa_cons (pe_ix ix_SEQ (pv 0) pe_int (fun _ _ => rfl)) pa_nil)) (pv 1)))
      (pss_cons (ps_asg (pe_op op_FDIV (pe_callTy call_INT (by rfl) Y.m_int (by decide +kernel) (pa_cons (pe_ix ix_SEQ (pv 0) pe_int (fun _ _ => rfl)) pa_nil)) (pv 1)) (pg_sub (pv 0) pe_int set_list))
      (pss_one (ps_ret (pv 2))))) pss_nil)
    (pss_cons (ps_asg (pe_op op_ADD (pe_ix ix_SEQ (pv 0) pe_int (fun _ _ => rfl)) pe_int) (pg_sub (pv 0) pe_int set_list))
    (pss_cons (ps_asg (pe_op op_MOD (pe_callTy call_INT (by rfl) Y.m_int (by decide +kernel) (pa_cons (pe_op op_ADD (pe_op op_ADD (pe_op op_MUL (pe_ix ix_SEQ (pv 0) pe_int (fun _ _ => rfl)) pe_int) (pe_op op_MUL (pe_op op_MUL (pe_ix ix_SEQ (pv 0) pe_int (fun _ _ => rfl)) (pe_ix ix_SEQ (pv 0) pe_int (fun _ _ => rfl))) pe_int)) pe_int) pa_nil)) pe_int) (pg_sub (pv 0) pe_int set_list))
    (pss_one (ps_ret (pe_op op_MOD (pe_op op_FDIV (pe_op op_MOD (pe_callTy call_INT (by rfl) Y.m_int (by decide +kernel) (pa_cons (pe_op op_MUL (pe_ix ix_SEQ (pv 0) pe_int (fun _ _ => rfl)) (pe_ix ix_SEQ (pv 0) pe_int (fun _ _ => rfl))) pa_nil)) pe_int) pe_int) (pv 1)))))))
def t__law_same (K : PySem.W.Frag) (sp__law_same : PySem.W.Frag → Sp) : TS :=
    (tSeq (tIfS (tTest (tOp (rIS K) (tVar 1) (tC .non))) (tRet (tOp (rIS K) (tVar 0) (tC .non))) tNext)
    (tSeq (tIfS (tTru1 K (tCB (rISI K) (tCons (tVar 1) (tCons (tC (.ty "bool")) tNil)))) (tRet (tAndV (tCB (rISI K) (tCons (tVar 0) (tCons (tC (.ty "bool")) tNil))) (tOp (rEQ K) (tVar 0) (tVar 1)))) tNext)
    (tSeq (tIfS (tTru1 K (tCB (rISI K) (tCons (tVar 1) (tCons (tC (.ty "int")) tNil)))) (tRet (tAndV (tCB (rISI K) (tCons (tVar 0) (tCons (tC (.ty "int")) tNil))) (tAndV (tNotV (tCB (rISI K) (tCons (tVar 0) (tCons (tC (.ty "bool")) tNil)))) (tOp (rEQ K) (tVar 0) (tVar 1))))) tNext)
    (tSeq (tIfS (tTru1 K (tCB (rISI K) (tCons (tVar 1) (tCons (tC (.ty "str")) tNil)))) (tRet (tAndV (tCB (rISI K) (tCons (tVar 0) (tCons (tC (.ty "str")) tNil))) (tOp (rEQ K) (tVar 0) (tVar 1)))) tNext)
    (tSeq (tIfS (tOr (tTest (tOp (rNE K) (tCB (rISI K) (tCons (tVar 1) (tCons (tC (.ty "list")) tNil))) (tCB (rISI K) (tCons (tVar 0) (tCons (tC (.ty "list")) tNil))))) (tTest (tOp (rNE K) (tCB (rISI K) (tCons (tVar 1) (tCons (tC (.ty "tuple")) tNil))) (tCB (rISI K) (tCons (tVar 0) (tCons (tC (.ty "tuple")) tNil)))))) (tRet (tC (.bl false))) tNext)
    (tRet (tAndV (tOp (rEQ K) (tCB (rLEN K) (tCons (tVar 0) tNil)) (tCB (rLEN K) (tCons (tVar 1) tNil))) (tCB (rAll K) (tCons (tLc (iRng1 (tCons (tCB (rLEN K) (tCons (tVar 1) tNil)) tNil)) (gName 2) tYes (tCall (sp__law_same K) [] E0 (tCons (tOp (rIX K) (tVar 0) (tVar 2)) (tCons (tOp (rIX K) (tVar 1) (tVar 2)) tNil))) [2]) tNil)))))))))
theorem b__law_same {n : Nat} (Y : Fx K mg) {sp__law_same : PySem.W.Frag → Sp} (G__law_same : FnOk P w K mg base CX0 n Y.a__law_same Y.fd__law_same ["_law_found", "_law_due"] (sp__law_same K)) {f : Addr} {cdv : Value} {A : Around} {outer : List Env} {s : Shared} {H : Hp} {E : XK} (hn : 0 ≤ n) (hr : Room n (A.deeper (envOfC "_law_same" (defScope s__law_same) s.heap.objs.size f cdv))) :
    PSs (cxOf CX0 P w K mg base ["_law_found", "_law_due", "_law_k"] "_law_same" (defScope s__law_same) f cdv A outer s H E).nox (defBody s__law_same) (t__law_same K sp__law_same) :=
    (pss_cons (ps_if (pt_cmpR op_IS (pv 1) pe_non (nomark _)) (pss_one (ps_ret (pe_cmpR op_IS (pv 0) pe_non (nomark _)))) pss_nil)
    (pss_cons (ps_if (pt_tru (pe_callB call_ISI (by rfl) Y.m_isinstance (by decide +kernel) (pa_cons (pv 1) (pa_cons (pe_bltn (v := .ty "bool") (by rfl) Y.m_bool (by decide +kernel) rfl) pa_nil))) (by intro _; rfl)) (pss_one (ps_ret (pe_and (pe_callB call_ISI (by rfl) Y.m_isinstance (by decide +kernel) (pa_cons (pv 0) (pa_cons (pe_bltn (v := .ty "bool") (by rfl) Y.m_bool (by decide +kernel) rfl) pa_nil))) (pe_one (pe_cmpR (op_EQ (hu_64 hr)) (pv 0) (pv 1) (nomark _)))))) pss_nil)
    (pss_cons (ps_if (pt_tru (pe_callB call_ISI (by rfl) Y.m_isinstance (by decide +kernel) (pa_cons (pv 1) (pa_cons (pe_bltn (v := .ty "int") (by rfl) Y.m_int (by decide +kernel) rfl) pa_nil))) (by intro _; rfl)) (pss_one (ps_ret (pe_and (pe_callB call_ISI (by rfl) Y.m_isinstance (by decide +kernel) (pa_cons (pv 0) (pa_cons (pe_bltn (v := .ty "int") (by rfl) Y.m_int (by decide +kernel) rfl) pa_nil))) (pe_and (pe_not (pe_callB call_ISI (by rfl) Y.m_isinstance (by decide +kernel) (pa_cons (pv 0) (pa_cons (pe_bltn (v := .ty "bool") (by rfl) Y.m_bool (by decide +kernel) rfl) pa_nil)))) (pe_one (pe_cmpR (op_EQ (hu_64 hr)) (pv 0) (pv 1) (nomark _))))))) pss_nil)
    (pss_cons (ps_if (pt_tru (pe_callB call_ISI (by rfl) Y.m_isinstance (by decide +kernel) (pa_cons (pv 1) (pa_cons (pe_bltn (v := .ty "str") (by rfl) Y.m_str (by decide +kernel) rfl) pa_nil))) (by intro _; rfl)) (pss_one (ps_ret (pe_and (pe_callB call_ISI (by rfl) Y.m_isinstance (by decide +kernel) (pa_cons (pv 0) (pa_cons (pe_bltn (v := .ty "str") (by rfl) Y.m_str (by decide +kernel) rfl) pa_nil))) (pe_one (pe_cmpR (op_EQ (hu_64 hr)) (pv 0) (pv 1) (nomark _)))))) pss_nil)
    (pss_cons (ps_if (PW.pt (pw_or (pt_cmpR (op_NE (hu_64 hr)) (pe_callB call_ISI (by rfl) Y.m_isinstance (by decide +kernel) (pa_cons (pv 1) (pa_cons (pe_bltn (v := .ty "list") (by rfl) Y.m_list (by decide +kernel) rfl) pa_nil))) (pe_callB call_ISI (by rfl) Y.m_isinstance (by decide +kernel) (pa_cons (pv 0) (pa_cons (pe_bltn (v := .ty "list") (by rfl) Y.m_list (by decide +kernel) rfl) pa_nil))) (nomark _)) (pw_or1 (pt_cmpR (op_NE (hu_64 hr)) (pe_callB call_ISI (by rfl) Y.m_isinstance (by decide +kernel) (pa_cons (pv 1) (pa_cons (pe_bltn (v := .ty "tuple") (by rfl) Y.m_tuple (by decide +kernel) rfl) pa_nil))) (pe_callB call_ISI (by rfl) Y.m_isinstance (by decide +kernel) (pa_cons (pv 0) (pa_cons (pe_bltn (v := .ty "tuple") (by rfl) Y.m_tuple (by decide +kernel) rfl) pa_nil))) (nomark _))))) (pss_one (ps_ret pe_bl)) pss_nil)
    (pss_one (ps_ret (pe_and (pe_cmpR (op_EQ (hu_64 hr)) (pe_callB call_LEN (by rfl) Y.m_len (by decide +kernel) (pa_cons (pv 0) pa_nil)) (pe_callB call_LEN (by rfl) Y.m_len (by decide +kernel) (pa_cons (pv 1) pa_nil)) (nomark _)) (pe_one (pe_callB (cr_all rfl) (by rfl) Y.m_all (by decide +kernel) (pa_cons (pe_lc (own := [("_law_k", 2)]) (by rfl) sc__law_same.nd (pi_range1 (by rfl) Y.m_range (pa_cons (pe_callB call_LEN (by rfl) Y.m_len (by decide +kernel) (pa_cons (pv 1) pa_nil)) pa_nil)) (blkOk_by (own := [("_law_k", 2)]) (N := ["_law_found", "_law_due", "_law_k"]) (sc := defScope s__law_same) (by decide +kernel)) (fun _ _ _ _ _ => (pg_name (i := 2) sc__law_same.nd rfl (Or.inl rfl))) (fun _ _ _ _ _ => pts_nil) (fun _ _ _ _ _ => (pe_call G__law_same hr (by rfl) Y.g__law_same Y.F__law_same.kp Y.b__law_same .nil pass0 (pa_cons (pe_ix ix_SEQ (pv 0) (pv 2) (fun _ _ => rfl)) (pa_cons (pe_ix ix_SEQ (pv 1) (pv 2) (fun _ _ => rfl)) pa_nil))))) pa_nil)))))))))))
def t__law_word (K : PySem.W.Frag) (sp__law_dip : PySem.W.Frag → Sp) : TS :=
    (tSeq (tAsg (tC (.str " !\"#$&'()*+,-./0123456789:;<=>?@ABCDEFGHIJKLMNOPQRSTUVWXYZ[\\]^_`abcdefghijklmnopqrstuvwxyz{|}~")) (gName 2))
    (tRet (tBM K "str" (rJoin K) (tC (.str "")) (tCons (tLc (iRng1 (tCons (tCall (sp__law_dip K) [] E0 (tCons (tVar 0) (tCons (tOp (rADD K) (tVar 1) (tC (.int 1))) tNil))) tNil)) (gName 3) tYes (tOp (rIX K) (tVar 2) (tCall (sp__law_dip K) [] E0 (tCons (tVar 0) (tCons (tC (.int 94)) tNil)))) [3]) tNil))))
theorem b__law_word (Y : Fx K mg) {sp__law_dip : PySem.W.Frag → Sp} (G__law_dip : FnOk P w K mg base CX0 1 Y.a__law_dip Y.fd__law_dip ["_law_well_here", "_law_many"] (sp__law_dip K)) {f : Addr} {cdv : Value} {A : Around} {outer : List Env} {s : Shared} {H : Hp} {E : XK} (hr : Room 1 (A.deeper (envOfC "_law_word" (defScope s__law_word) s.heap.objs.size f cdv))) :
    PSs (cxOf CX0 P w K mg base ["_law_well_here", "_law_most", "_law_signs", "_law_k"] "_law_word" (defScope s__law_word) f cdv A outer s H E).nox (defBody s__law_word) (t__law_word K sp__law_dip) :=
    (pss_cons (ps_set (i := 2) sc__law_word.nd rfl (Or.inr rfl) pe_str)
    (pss_one (ps_ret (pe_bm PySem.F.plainAttrs_str PySem.F.slot_str_join PySem.F.type_str_join mt_join pe_str (pa_cons (pe_lc (own := [("_law_k", 3)]) (by rfl) sc__law_word.nd (pi_range1 (by rfl) Y.m_range (pa_cons (pe_call G__law_dip (hr.mono (by decide)) (by rfl) Y.g__law_dip Y.F__law_dip.kp Y.b__law_dip .nil pass0 (pa_cons (pv 0) (pa_cons (pe_op op_ADD (pv 1) pe_int) pa_nil))) pa_nil)) (blkOk_by (own := [("_law_k", 3)]) (N := ["_law_well_here", "_law_most", "_law_signs", "_law_k"]) (sc := defScope s__law_word) (by decide +kernel)) (fun _ _ _ _ _ => (pg_name (i := 3) sc__law_word.nd rfl (Or.inl rfl))) (fun _ _ _ _ _ => pts_nil) (fun _ _ _ _ _ => (pe_ix ix_SEQ (pv 2) (pe_call G__law_dip (hr.mono (by decide)) (by rfl) Y.g__law_dip Y.F__law_dip.kp Y.b__law_dip .nil pass0 (pa_cons (pv 0) (pa_cons pe_int pa_nil))) (fun _ _ => rfl)))) pa_nil)))))
def t__law_pool (K : PySem.W.Frag) (sp__law_dip : PySem.W.Frag → Sp) (sp__law_word : PySem.W.Frag → Sp) : TS :=
    (tSeq (tAsg (tLst (tCons (tCall (sp__law_word K) [] E0 (tCons (tVar 0) (tCons (tC (.int 2)) tNil))) tNil)) (gName 2))
    (tSeq (tFor (iRng1 (tCons (tOp rSUB (tVar 1) (tC (.int 1))) tNil)) (gName 3) (tSeq (tAsg (tOp (rIX K) (tLst (tCons (tCall (sp__law_word K) [] E0 (tCons (tVar 0) (tCons (tC (.int 3)) tNil))) (tCons (tOp (rADD K) (tOp (rIX K) (tVar 2) (tUn rNEG (tC (.int 1)))) (tCall (sp__law_word K) [] E0 (tCons (tVar 0) (tCons (tC (.int 1)) tNil)))) (tCons (tOp (rADD K) (tCall (sp__law_word K) [] E0 (tCons (tVar 0) (tCons (tC (.int 1)) tNil))) (tOp (rIX K) (tVar 2) (tC (.int 0)))) tNil)))) (tCall (sp__law_dip K) [] E0 (tCons (tVar 0) (tCons (tC (.int 3)) tNil)))) (gName 4))
      (tIfS (tTest (tOp (rNINU K) (tVar 4) (tVar 2))) (tDrop (tBM K "list" rAppend (tVar 2) (tCons (tVar 4) tNil))) tNext)))
    (tRet (tVar 2))))
theorem b__law_pool (Y : Fx K mg) {sp__law_dip : PySem.W.Frag → Sp} {sp__law_word : PySem.W.Frag → Sp} (G__law_dip : FnOk P w K mg base CX0 1 Y.a__law_dip Y.fd__law_dip ["_law_well_here", "_law_many"] (sp__law_dip K)) (G__law_word : FnOk P w K mg base CX0 2 Y.a__law_word Y.fd__law_word ["_law_well_here", "_law_most"] (sp__law_word K)) {f : Addr} {cdv : Value} {A : Around} {outer : List Env} {s : Shared} {H : Hp} {E : XK} (hr : Room 2 (A.deeper (envOfC "_law_pool" (defScope s__law_pool) s.heap.objs.size f cdv))) :
    PSs (cxOf CX0 P w K mg base ["_law_well_here", "_law_many", "_law_pool_here", "_law_k", "_law_key"] "_law_pool" (defScope s__law_pool) f cdv A outer s H E).nox (defBody s__law_pool) (t__law_pool K sp__law_dip sp__law_word) :=
    (pss_cons (ps_set (i := 2) sc__law_pool.nd rfl (Or.inl rfl) (pe_lst (pa_cons (pe_call G__law_word (hr.mono (by decide)) (by rfl) Y.g__law_word Y.F__law_word.kp Y.b__law_word .nil pass0 (pa_cons (pv 0) (pa_cons pe_int pa_nil))) pa_nil)))
    (pss_cons (ps_for PassesOwn.never rfl (pi_range1 (by rfl) Y.m_range (pa_cons (pe_op op_SUB (pv 1) pe_int) pa_nil)) (pg_name (i := 3) sc__law_pool.nd rfl (Or.inl rfl)) (pss_cons (ps_set (i := 4) sc__law_pool.nd rfl (Or.inl rfl) (pe_ix ix_SEQ (pe_lst (pa_cons (pe_call G__law_word (hr.mono (by decide)) (by rfl) Y.g__law_word Y.F__law_word.kp Y.b__law_word .nil pass0 (pa_cons (pv 0) (pa_cons pe_int pa_nil))) (pa_cons (pe_op op_ADD (pe_ix ix_SEQ (pv 2) (pe_un un_NEG pe_int) (fun _ _ => rfl)) (pe_call G__law_word (hr.mono (by decide)) (by rfl) Y.g__law_word Y.F__law_word.kp Y.b__law_word .nil pass0 (pa_cons (pv 0) (pa_cons pe_int pa_nil)))) (pa_cons (pe_op op_ADD (pe_call G__law_word (hr.mono (by decide)) (by rfl) Y.g__law_word Y.F__law_word.kp Y.b__law_word .nil pass0 (pa_cons (pv 0) (pa_cons pe_int pa_nil))) (pe_ix ix_SEQ (pv 2) pe_int (fun _ _ => rfl))) pa_nil)))) (pe_call G__law_dip (hr.mono (by decide)) (by rfl) Y.g__law_dip Y.F__law_dip.kp Y.b__law_dip .nil pass0 (pa_cons (pv 0) (pa_cons pe_int pa_nil))) (fun _ _ => rfl)))
      (pss_one (ps_if (pt_cmpR op_NIN (pv 4) (pv 2) (by with_unfolding_all rfl)) (pss_one (ps_expr (pe_bm PySem.F.plainAttrs_list PySem.F.slot_list_append PySem.F.type_list_append mt_append (pv 2) (pa_cons (pv 4) pa_nil)))) pss_nil))))
    (pss_one (ps_ret (pv 2)))))
def t__law_has (K : PySem.W.Frag)  : TS :=
    (tSeq (tIfS (tTest (tOp (rEQ K) (tOp (rIX K) (tVar 0) (tC (.int 0))) (tC (.str "value")))) (tRet (tOp (rEQ K) (tVar 1) (tOp (rIX K) (tVar 0) (tC (.int 1))))) tNext)
    (tRet (tAndV (tNotV (tAndV (tOp (rISN K) (tOp (rIX K) (tVar 0) (tC (.int 1))) (tC .non)) (tOp rLT (tVar 1) (tOp (rIX K) (tVar 0) (tC (.int 1)))))) (tNotV (tAndV (tOp (rISN K) (tOp (rIX K) (tVar 0) (tC (.int 2))) (tC .non)) (tOp rGE (tVar 1) (tOp (rIX K) (tVar 0) (tC (.int 2)))))))))
theorem b__law_has (Y : Fx K mg)   {f : Addr} {cdv : Value} {A : Around} {outer : List Env} {s : Shared} {H : Hp} {E : XK} (hr : Room 0 (A.deeper (envOfC "_law_has" (defScope s__law_has) s.heap.objs.size f cdv))) :
    PSs (cxOf CX0 P w K mg base ["_law_note_here", "_law_key"] "_law_has" (defScope s__law_has) f cdv A outer s H E).nox (defBody s__law_has) (t__law_has K ) :=
    (pss_cons (ps_if (pt_cmpR (op_EQ (hu_64 hr)) (pe_ix ix_SEQ (pv 0) pe_int (fun _ _ => rfl)) pe_str (nomark _)) (pss_one (ps_ret (pe_cmpR (op_EQ (hu_64 hr)) (pv 1) (pe_ix ix_SEQ (pv 0) pe_int (fun _ _ => rfl)) (nomark _)))) pss_nil)
    (pss_one (ps_ret (pe_and (pe_not (pe_and (pe_cmpR op_ISN (pe_ix ix_SEQ (pv 0) pe_int (fun _ _ => rfl)) pe_non (nomark _)) (pe_one (pe_cmpR op_LT (pv 1) (pe_ix ix_SEQ (pv 0) pe_int (fun _ _ => rfl)) (nomark _))))) (pe_one (pe_not (pe_and (pe_cmpR op_ISN (pe_ix ix_SEQ (pv 0) pe_int (fun _ _ => rfl)) pe_non (nomark _)) (pe_one (pe_cmpR op_GE (pv 1) (pe_ix ix_SEQ (pv 0) pe_int (fun _ _ => rfl)) (nomark _))))))))))
def t__law_given (K : PySem.W.Frag) (sp__law_has : PySem.W.Frag → Sp) : TS :=
    (tSeq (tIfS (tTest (tOp (rEQ K) (tOp (rIX K) (tVar 1) (tC (.int 0))) (tC (.str "value")))) (tRet (tTup (tCons (tC (.str "value")) (tCons (tOp (rIX K) (tVar 1) (tC (.int 1))) (tCons (tDGet1 (tVar 0) (tOp (rIX K) (tVar 1) (tC (.int 1)))) tNil))))) tNext)
    (tSeq (tAsg (tCB (rTUPLE K) (tCons (tLc (iList K (tCB rSortD (tCons (tVar 0) tNil))) (gName 3) (tTru1 K (tCall (sp__law_has K) [] E0 (tCons (tVar 1) (tCons (tVar 3) tNil)))) (tTup (tCons (tVar 3) (tCons (tDGet (tVar 0) (tVar 3)) tNil))) [3]) tNil)) (gName 2))
    (tRet (tTup (tCons (tC (.str "entries")) (tCons (tOp (rIX K) (tVar 1) (tC (.int 1))) (tCons (tOp (rIX K) (tVar 1) (tC (.int 2))) (tCons (tVar 2) tNil))))))))
theorem b__law_given (Y : Fx K mg) {sp__law_has : PySem.W.Frag → Sp} (G__law_has : FnOk P w K mg base CX0 1 Y.a__law_has Y.fd__law_has ["_law_note_here", "_law_key"] (sp__law_has K)) {f : Addr} {cdv : Value} {A : Around} {outer : List Env} {s : Shared} {H : Hp} {E : XK} (hr : Room 1 (A.deeper (envOfC "_law_given" (defScope s__law_given) s.heap.objs.size f cdv))) :
    PSs (cxOf CX0 P w K mg base ["_law_rows", "_law_note_here", "_law_found", "_law_key"] "_law_given" (defScope s__law_given) f cdv A outer s H E).nox (defBody s__law_given) (t__law_given K sp__law_has) :=
    (pss_cons (ps_if (pt_cmpR (op_EQ (hu_64 hr)) (pe_ix ix_SEQ (pv 1) pe_int (fun _ _ => rfl)) pe_str (nomark _)) (pss_one (ps_ret (pe_tup (pa_cons pe_str (pa_cons (pe_ix ix_SEQ (pv 1) pe_int (fun _ _ => rfl)) (pa_cons (pe_dget1 (hu_of hr) (pv 0) (pe_ix ix_SEQ (pv 1) pe_int (fun _ _ => rfl)) ⟨rfl, rfl, rfl, rfl⟩) pa_nil)))))) pss_nil)
    (pss_cons (ps_set (i := 2) sc__law_given.nd rfl (Or.inl rfl) (pe_callTy call_TUPLE (by rfl) Y.m_tuple (by decide +kernel) (pa_cons (pe_lc (own := [("_law_key", 3)]) (by rfl) sc__law_given.nd (pi_list (pe_callB (call_SORTD rfl) (by rfl) Y.m_sorted (by decide +kernel) (pa_cons (pv 0) pa_nil))) (blkOk_by (own := [("_law_key", 3)]) (N := ["_law_rows", "_law_note_here", "_law_found", "_law_key"]) (sc := defScope s__law_given) (by decide +kernel)) (fun _ _ _ _ _ => (pg_name (i := 3) sc__law_given.nd rfl (Or.inl rfl))) (fun _ _ _ _ _ => (pts_one (pt_tru (pe_call G__law_has (hr.mono (by decide)) (by rfl) Y.g__law_has Y.F__law_has.kp Y.b__law_has .nil pass0 (pa_cons (pv 1) (pa_cons (pv 3) pa_nil))) (by intro _; rfl)))) (fun _ _ _ _ _ => (pe_tup (pa_cons (pv 3) (pa_cons (pe_dget (hu_of hr) (pv 0) (pv 3) (fun _ _ => rfl)) pa_nil))))) pa_nil)))
    (pss_one (ps_ret (pe_tup (pa_cons pe_str (pa_cons (pe_ix ix_SEQ (pv 1) pe_int (fun _ _ => rfl)) (pa_cons (pe_ix ix_SEQ (pv 1) pe_int (fun _ _ => rfl)) (pa_cons (pv 2) pa_nil)))))))))
def t__law_note (K : PySem.W.Frag) (sp__law_dip : PySem.W.Frag → Sp) (sp__law_given : PySem.W.Frag → Sp) (sp__law_word : PySem.W.Frag → Sp) : TS :=
    (tSeq (tAsg (tOp (rADD K) (tOp (rADD K) (tLst (tCons (tC .non) (tCons (tC .non) tNil))) (tVar 1)) (tLst (tCons (tCall (sp__law_word K) [] E0 (tCons (tVar 0) (tCons (tC (.int 2)) tNil))) tNil))) (gName 3))
    (tSeq (tPar 4 5 (tCons (tOp (rIX K) (tVar 3) (tCall (sp__law_dip K) [] E0 (tCons (tVar 0) (tCons (tCB (rLEN K) (tCons (tVar 3) tNil)) tNil)))) (tCons (tOp (rIX K) (tVar 3) (tCall (sp__law_dip K) [] E0 (tCons (tVar 0) (tCons (tCB (rLEN K) (tCons (tVar 3) tNil)) tNil)))) tNil)))
    (tSeq (tIfS (tTest (tOp (rEQ K) (tCall (sp__law_dip K) [] E0 (tCons (tVar 0) (tCons (tC (.int 3)) tNil))) (tC (.int 0)))) (tRet (tCall (sp__law_given K) [] E0 (tCons (tVar 2) (tCons (tTup (tCons (tC (.str "entries")) (tCons (tVar 4) (tCons (tVar 5) (tCons (tTup tNil) tNil))))) tNil)))) tNext)
    (tRet (tCall (sp__law_given K) [] E0 (tCons (tVar 2) (tCons (tTup (tCons (tC (.str "value")) (tCons (tOp (rIX K) (tVar 3) (tOp (rADD K) (tC (.int 2)) (tCall (sp__law_dip K) [] E0 (tCons (tVar 0) (tCons (tOp rSUB (tCB (rLEN K) (tCons (tVar 3) tNil)) (tC (.int 2))) tNil))))) (tCons (tC .non) tNil)))) tNil)))))))
theorem b__law_note (Y : Fx K mg) {sp__law_dip : PySem.W.Frag → Sp} {sp__law_given : PySem.W.Frag → Sp} {sp__law_word : PySem.W.Frag → Sp} (G__law_dip : FnOk P w K mg base CX0 1 Y.a__law_dip Y.fd__law_dip ["_law_well_here", "_law_many"] (sp__law_dip K)) (G__law_given : FnOk P w K mg base CX0 2 Y.a__law_given Y.fd__law_given ["_law_rows", "_law_note_here"] (sp__law_given K)) (G__law_word : FnOk P w K mg base CX0 2 Y.a__law_word Y.fd__law_word ["_law_well_here", "_law_most"] (sp__law_word K)) {f : Addr} {cdv : Value} {A : Around} {outer : List Env} {s : Shared} {H : Hp} {E : XK} (hr : Room 2 (A.deeper (envOfC "_law_note" (defScope s__law_note) s.heap.objs.size f cdv))) :
    PSs (cxOf CX0 P w K mg base ["_law_well_here", "_law_pool_here", "_law_rows", "_law_ends", "_law_low", "_law_high"] "_law_note" (defScope s__law_note) f cdv A outer s H E).nox (defBody s__law_note) (t__law_note K sp__law_dip sp__law_given sp__law_word) :=
    (pss_cons (ps_set (i := 3) sc__law_note.nd rfl (Or.inl rfl) (pe_op op_ADD (pe_op op_ADD (pe_lst (pa_cons pe_non (pa_cons pe_non pa_nil))) (pv 1)) (pe_lst (pa_cons (pe_call G__law_word (hr.mono (by decide)) (by rfl) Y.g__law_word Y.F__law_word.kp Y.b__law_word .nil pass0 (pa_cons (pv 0) (pa_cons pe_int pa_nil))) pa_nil))))
    (pss_cons (ps_par (i := 4) (j := 5) (by rfl) sc__law_note.nd rfl rfl (by decide) rfl rfl (pa_cons (pe_ix ix_SEQ (pv 3) (pe_call G__law_dip (hr.mono (by decide)) (by rfl) Y.g__law_dip Y.F__law_dip.kp Y.b__law_dip .nil pass0 (pa_cons (pv 0) (pa_cons (pe_callB call_LEN (by rfl) Y.m_len (by decide +kernel) (pa_cons (pv 3) pa_nil)) pa_nil))) (fun _ _ => rfl)) (pa_cons (pe_ix ix_SEQ (pv 3) (pe_call G__law_dip (hr.mono (by decide)) (by rfl) Y.g__law_dip Y.F__law_dip.kp Y.b__law_dip .nil pass0 (pa_cons (pv 0) (pa_cons (pe_callB call_LEN (by rfl) Y.m_len (by decide +kernel) (pa_cons (pv 3) pa_nil)) pa_nil))) (fun _ _ => rfl)) pa_nil)) (by rfl))
    (pss_cons (ps_if (pt_cmpR (op_EQ (hu_64 hr)) (pe_call G__law_dip (hr.mono (by decide)) (by rfl) Y.g__law_dip Y.F__law_dip.kp Y.b__law_dip .nil pass0 (pa_cons (pv 0) (pa_cons pe_int pa_nil))) pe_int (nomark _)) (pss_one (ps_ret (pe_call G__law_given (hr.mono (by decide)) (by rfl) Y.g__law_given Y.F__law_given.kp Y.b__law_given .nil pass0 (pa_cons (pv 2) (pa_cons (pe_tup (pa_cons pe_str (pa_cons (pv 4) (pa_cons (pv 5) (pa_cons (pe_tup pa_nil) pa_nil))))) pa_nil))))) pss_nil)
    (pss_one (ps_ret (pe_call G__law_given (hr.mono (by decide)) (by rfl) Y.g__law_given Y.F__law_given.kp Y.b__law_given .nil pass0 (pa_cons (pv 2) (pa_cons (pe_tup (pa_cons pe_str (pa_cons (pe_ix ix_SEQ (pv 3) (pe_op op_ADD pe_int (pe_call G__law_dip (hr.mono (by decide)) (by rfl) Y.g__law_dip Y.F__law_dip.kp Y.b__law_dip .nil pass0 (pa_cons (pv 0) (pa_cons (pe_op op_SUB (pe_callB call_LEN (by rfl) Y.m_len (by decide +kernel) (pa_cons (pv 3) pa_nil)) pe_int) pa_nil)))) (fun _ _ => rfl)) (pa_cons pe_non pa_nil)))) pa_nil))))))))
def t__law_laid (K : PySem.W.Frag)  : TS :=
    (tSeq (tAsg (tCB rDictD (tCons (tVar 0) tNil)) (gName 0))
    (tSeq (tFor (iTup K (tVar 1)) (gTup K 2 (gCons (gName 2) (gCons (gName 3) gNil))) (tIfS (tTest (tOp (rIS K) (tVar 3) (tC .non))) (tDrop (tDPop2 (tVar 0) (tVar 2) (tC .non))) (sDPut (tVar 0) (tVar 2) (tVar 3))))
    (tRet (tVar 0))))
theorem b__law_laid (Y : Fx K mg)   {f : Addr} {cdv : Value} {A : Around} {outer : List Env} {s : Shared} {H : Hp} {E : XK} (hr : Room 0 (A.deeper (envOfC "_law_laid" (defScope s__law_laid) s.heap.objs.size f cdv))) :
    PSs (cxOf CX0 P w K mg base ["_law_rows", "_law_changes_here", "_law_key", "_law_value"] "_law_laid" (defScope s__law_laid) f cdv A outer s H E).nox (defBody s__law_laid) (t__law_laid K ) :=
    (pss_cons (ps_set (i := 0) sc__law_laid.nd rfl (Or.inl rfl) (pe_callTy cr_dictD (by rfl) Y.m_dict (by decide +kernel) (pa_cons (pv 0) pa_nil)))
    (pss_cons (ps_for PassesOwn.never rfl (pi_tup (pv 1)) (pg_tup rfl (pgs_cons (pg_name (i := 2) sc__law_laid.nd rfl (Or.inl rfl)) (pgs_cons (pg_name (i := 3) sc__law_laid.nd rfl (Or.inl rfl)) pgs_nil))) (pss_one (ps_if (pt_cmpR op_IS (pv 3) pe_non (nomark _)) (pss_one (ps_expr (pe_dpop2 (pv 0) (pv 2) pe_non ⟨rfl, rfl, rfl, rfl⟩))) (pss_one (ps_dput (hu_of hr) (pv 0) (pv 2) (pv 3) (by rfl))))))
    (pss_one (ps_ret (pv 0)))))
def t__law_changes (K : PySem.W.Frag) (sp__law_dip : PySem.W.Frag → Sp) (sp__law_word : PySem.W.Frag → Sp) : TS :=
    (tSeq (tAsg tDNewK (gName 3))
    (tSeq (tFor (iRng1 (tCons (tCall (sp__law_dip K) [] E0 (tCons (tVar 0) (tCons (tOp (rADD K) (tVar 2) (tC (.int 1))) tNil))) tNil)) (gName 4) (tSeq (tAsg (tCall (sp__law_word K) [] E0 (tCons (tVar 0) (tCons (tC (.int 3)) tNil))) (gName 5))
      (tIfS (tTest (tOp (rNE K) (tVar 1) (tLst tNil))) (sDPut (tVar 3) (tOp (rIX K) (tVar 1) (tCall (sp__law_dip K) [] E0 (tCons (tVar 0) (tCons (tCB (rLEN K) (tCons (tVar 1) tNil)) tNil)))) (tOp (rIX K) (tLst (tCons (tVar 5) (tCons (tC .non) (tCons (tVar 5) tNil)))) (tCall (sp__law_dip K) [] E0 (tCons (tVar 0) (tCons (tC (.int 3)) tNil))))) tNext)))
    (tRet (tCB (rTUPLE K) (tCons (tLc (iList K (tCB rSortD (tCons (tVar 3) tNil))) (gName 6) tYes (tTup (tCons (tVar 6) (tCons (tDGet (tVar 3) (tVar 6)) tNil))) [6]) tNil)))))
theorem b__law_changes (Y : Fx K mg) {sp__law_dip : PySem.W.Frag → Sp} {sp__law_word : PySem.W.Frag → Sp} (G__law_dip : FnOk P w K mg base CX0 1 Y.a__law_dip Y.fd__law_dip ["_law_well_here", "_law_many"] (sp__law_dip K)) (G__law_word : FnOk P w K mg base CX0 2 Y.a__law_word Y.fd__law_word ["_law_well_here", "_law_most"] (sp__law_word K)) {f : Addr} {cdv : Value} {A : Around} {outer : List Env} {s : Shared} {H : Hp} {E : XK} (hr : Room 2 (A.deeper (envOfC "_law_changes" (defScope s__law_changes) s.heap.objs.size f cdv))) :
    PSs (cxOf CX0 P w K mg base ["_law_well_here", "_law_keys", "_law_most", "_law_rows", "_law_k", "_law_value", "_law_key"] "_law_changes" (defScope s__law_changes) f cdv A outer s H E).nox (defBody s__law_changes) (t__law_changes K sp__law_dip sp__law_word) :=
    (pss_cons (ps_set (i := 3) sc__law_changes.nd rfl (Or.inr rfl) pe_dnewK)
    (pss_cons (ps_for PassesOwn.never rfl (pi_range1 (by rfl) Y.m_range (pa_cons (pe_call G__law_dip (hr.mono (by decide)) (by rfl) Y.g__law_dip Y.F__law_dip.kp Y.b__law_dip .nil pass0 (pa_cons (pv 0) (pa_cons (pe_op op_ADD (pv 2) pe_int) pa_nil))) pa_nil)) (pg_name (i := 4) sc__law_changes.nd rfl (Or.inl rfl)) (pss_cons (ps_set (i := 5) sc__law_changes.nd rfl (Or.inl rfl) (pe_call G__law_word (hr.mono (by decide)) (by rfl) Y.g__law_word Y.F__law_word.kp Y.b__law_word .nil pass0 (pa_cons (pv 0) (pa_cons pe_int pa_nil))))
      (pss_one (ps_if (pt_cmpR (op_NE (hu_64 hr)) (pv 1) (pe_lst pa_nil) (nomark _)) (pss_one (ps_dput (hu_of hr) (pv 3) (pe_ix ix_SEQ (pv 1) (pe_call G__law_dip (hr.mono (by decide)) (by rfl) Y.g__law_dip Y.F__law_dip.kp Y.b__law_dip .nil pass0 (pa_cons (pv 0) (pa_cons (pe_callB call_LEN (by rfl) Y.m_len (by decide +kernel) (pa_cons (pv 1) pa_nil)) pa_nil))) (fun _ _ => rfl)) (pe_ix ix_SEQ (pe_lst (pa_cons (pv 5) (pa_cons pe_non (pa_cons (pv 5) pa_nil)))) (pe_call G__law_dip (hr.mono (by decide)) (by rfl) Y.g__law_dip Y.F__law_dip.kp Y.b__law_dip .nil pass0 (pa_cons (pv 0) (pa_cons pe_int pa_nil))) (fun _ _ => rfl)) (by rfl))) pss_nil))))
    (pss_one (ps_ret (pe_callTy call_TUPLE (by rfl) Y.m_tuple (by decide +kernel) (pa_cons (pe_lc (own := [("_law_key", 6)]) (by rfl) sc__law_changes.nd (pi_list (pe_callB (call_SORTD rfl) (by rfl) Y.m_sorted (by decide +kernel) (pa_cons (pv 3) pa_nil))) (blkOk_by (own := [("_law_key", 6)]) (N := ["_law_well_here", "_law_keys", "_law_most", "_law_rows", "_law_k", "_law_value", "_law_key"]) (sc := defScope s__law_changes) (by decide +kernel)) (fun _ _ _ _ _ => (pg_name (i := 6) sc__law_changes.nd rfl (Or.inl rfl))) (fun _ _ _ _ _ => pts_nil) (fun _ _ _ _ _ => (pe_tup (pa_cons (pv 6) (pa_cons (pe_dget (hu_of hr) (pv 3) (pv 6) (fun _ _ => rfl)) pa_nil))))) pa_nil))))))
def t__law_barred (K : PySem.W.Frag)  : TS :=
    (tSeq (tAsg (tLst tNil) (gName 1))
    (tSeq (tFor (iTup K (tVar 0)) (gName 2) (tAsg (tOp (rADD K) (tVar 1) (tLc (iTup K (tOp (rIX K) (tVar 2) (tC (.int 3)))) (gName 3) tYes (tOp (rIX K) (tVar 3) (tC (.int 0))) [3])) (gName 1)))
    (tRet (tVar 1))))
theorem b__law_barred (Y : Fx K mg)   {f : Addr} {cdv : Value} {A : Around} {outer : List Env} {s : Shared} {H : Hp} {E : XK} (hr : Room 0 (A.deeper (envOfC "_law_barred" (defScope s__law_barred) s.heap.objs.size f cdv))) :
    PSs (cxOf CX0 P w K mg base ["_law_commits", "_law_keys", "_law_commit", "_law_row"] "_law_barred" (defScope s__law_barred) f cdv A outer s H E).nox (defBody s__law_barred) (t__law_barred K ) :=
    (pss_cons (ps_set (i := 1) sc__law_barred.nd rfl (Or.inl rfl) (pe_lst pa_nil))
    (pss_cons (ps_for PassesOwn.never rfl (pi_tup (pv 0)) (pg_name (i := 2) sc__law_barred.nd rfl (Or.inl rfl)) (pss_one (ps_set (i := 1) sc__law_barred.nd rfl (Or.inl rfl) (pe_op op_ADD (pv 1) (pe_lc (own := [("_law_row", 3)]) (by rfl) sc__law_barred.nd (pi_tup (pe_ix ix_SEQ (pv 2) pe_int (fun _ _ => rfl))) (blkOk_by (own := [("_law_row", 3)]) (N := ["_law_commits", "_law_keys", "_law_commit", "_law_row"]) (sc := defScope s__law_barred) (by decide +kernel)) (fun _ _ _ _ _ => (pg_name (i := 3) sc__law_barred.nd rfl (Or.inl rfl))) (fun _ _ _ _ _ => pts_nil) (fun _ _ _ _ _ => (pe_ix ix_SEQ (pv 3) pe_int (fun _ _ => rfl))))))))
    (pss_one (ps_ret (pv 1)))))
def t__law_history (K : PySem.W.Frag) (sp__law_barred : PySem.W.Frag → Sp) (sp__law_changes : PySem.W.Frag → Sp) (sp__law_dip : PySem.W.Frag → Sp) (sp__law_laid : PySem.W.Frag → Sp) (sp__law_note : PySem.W.Frag → Sp) : TS :=
    (tSeq (tAsg (tTup (tCons (tLst (tCons (tVar 2) tNil)) (tCons (tTup tNil) tNil))) (gTup K 2 (gCons (gName 5) (gCons (gName 6) gNil))))
    (tSeq (tFor (iRng1 (tCons (tVar 3) tNil)) (gName 7) (tSeq (tAsg (tOp (rIX K) (tLst (tCons (tVar 7) (tCons (tCall (sp__law_dip K) [] E0 (tCons (tVar 0) (tCons (tOp (rADD K) (tVar 7) (tC (.int 1))) tNil))) (tCons (tC (.int 0)) tNil)))) (tCall (sp__law_dip K) [] E0 (tCons (tVar 0) (tCons (tC (.int 3)) tNil)))) (gName 8))
      (tSeq (tAsg (tCall (sp__law_barred K) [] E0 (tCons (tSl (rSL K) (tVar 6) (tPart (tVar 8)) tNoPart) tNil)) (gName 9))
      (tSeq (tAsg (tCB (rTUPLE K) (tCons (tLc (iRng1 (tCons (tCall (sp__law_dip K) [] E0 (tCons (tVar 0) (tCons (tOp (rADD K) (tVar 4) (tC (.int 1))) tNil))) tNil)) (gName 12) tYes (tCall (sp__law_note K) [] E0 (tCons (tVar 0) (tCons (tVar 1) (tCons (tOp (rIX K) (tVar 5) (tVar 8)) tNil)))) [12]) tNil)) (gName 10))
      (tSeq (tAsg (tCall (sp__law_changes K) [] E0 (tCons (tVar 0) (tCons (tLc (iList K (tVar 1)) (gName 13) (tTest (tOp (rNINU K) (tVar 13) (tVar 9))) (tVar 13) [13]) (tCons (tVar 4) tNil)))) (gName 11))
      (tSeq (tAsg (tOp (rADD K) (tVar 6) (tTup (tCons (tTup (tCons (tVar 8) (tCons (tOp rGT (tCall (sp__law_dip K) [] E0 (tCons (tVar 0) (tCons (tC (.int 4)) tNil))) (tC (.int 0))) (tCons (tVar 10) (tCons (tVar 11) tNil))))) tNil))) (gName 6))
      (tDrop (tBM K "list" rAppend (tVar 5) (tCons (tCall (sp__law_laid K) [] E0 (tCons (tOp (rIX K) (tVar 5) (tUn rNEG (tC (.int 1)))) (tCons (tVar 11) tNil))) tNil)))))))))
    (tRet (tVar 6))))
theorem b__law_history (Y : Fx K mg) {sp__law_barred : PySem.W.Frag → Sp} {sp__law_changes : PySem.W.Frag → Sp} {sp__law_dip : PySem.W.Frag → Sp} {sp__law_laid : PySem.W.Frag → Sp} {sp__law_note : PySem.W.Frag → Sp} (G__law_barred : FnOk P w K mg base CX0 1 Y.a__law_barred Y.fd__law_barred ["_law_commits"] (sp__law_barred K)) (G__law_changes : FnOk P w K mg base CX0 3 Y.a__law_changes Y.fd__law_changes ["_law_well_here", "_law_keys", "_law_most"] (sp__law_changes K)) (G__law_dip : FnOk P w K mg base CX0 1 Y.a__law_dip Y.fd__law_dip ["_law_well_here", "_law_many"] (sp__law_dip K)) (G__law_laid : FnOk P w K mg base CX0 1 Y.a__law_laid Y.fd__law_laid ["_law_rows", "_law_changes_here"] (sp__law_laid K)) (G__law_note : FnOk P w K mg base CX0 3 Y.a__law_note Y.fd__law_note ["_law_well_here", "_law_pool_here", "_law_rows"] (sp__law_note K)) {f : Addr} {cdv : Value} {A : Around} {outer : List Env} {s : Shared} {H : Hp} {E : XK} (hr : Room 3 (A.deeper (envOfC "_law_history" (defScope s__law_history) s.heap.objs.size f cdv))) :
    PSs (cxOf CX0 P w K mg base ["_law_well_here", "_law_pool_here", "_law_rows", "_law_many", "_law_most", "_law_pasts", "_law_history_here", "_law_k", "_law_snapshot", "_law_barred_here", "_law_notes", "_law_changes_here", "_law_j", "_law_key"] "_law_history" (defScope s__law_history) f cdv A outer s H E).nox (defBody s__law_history) (t__law_history K sp__law_barred sp__law_changes sp__law_dip sp__law_laid sp__law_note) :=
    (pss_cons (ps_asg (pe_tup (pa_cons (pe_lst (pa_cons (pv 2) pa_nil)) (pa_cons (pe_tup pa_nil) pa_nil))) (pg_tup rfl (pgs_cons (pg_name (i := 5) sc__law_history.nd rfl (Or.inr rfl)) (pgs_cons (pg_name (i := 6) sc__law_history.nd rfl (Or.inl rfl)) pgs_nil))))
    (pss_cons (ps_for PassesOwn.never rfl (pi_range1 (by rfl) Y.m_range (pa_cons (pv 3) pa_nil)) (pg_name (i := 7) sc__law_history.nd rfl (Or.inl rfl)) (pss_cons (ps_set (i := 8) sc__law_history.nd rfl (Or.inr rfl) (pe_ix ix_SEQ (pe_lst (pa_cons (pv 7) (pa_cons (pe_call G__law_dip (hr.mono (by decide)) (by rfl) Y.g__law_dip Y.F__law_dip.kp Y.b__law_dip .nil pass0 (pa_cons (pv 0) (pa_cons (pe_op op_ADD (pv 7) pe_int) pa_nil))) (pa_cons pe_int pa_nil)))) (pe_call G__law_dip (hr.mono (by decide)) (by rfl) Y.g__law_dip Y.F__law_dip.kp Y.b__law_dip .nil pass0 (pa_cons (pv 0) (pa_cons pe_int pa_nil))) (fun _ _ => rfl)))
      (pss_cons (ps_set (i := 9) sc__law_history.nd rfl (Or.inr rfl) (pe_call G__law_barred (hr.mono (by decide)) (by rfl) Y.g__law_barred Y.F__law_barred.kp Y.b__law_barred .nil pass0 (pa_cons (pe_slice sl_SEQ (pv 6) (po_some (pv 8)) po_none) pa_nil)))
      (pss_cons (ps_set (i := 10) sc__law_history.nd rfl (Or.inl rfl) (pe_callTy call_TUPLE (by rfl) Y.m_tuple (by decide +kernel) (pa_cons (pe_lc (own := [("_law_j", 12)]) (by rfl) sc__law_history.nd (pi_range1 (by rfl) Y.m_range (pa_cons (pe_call G__law_dip (hr.mono (by decide)) (by rfl) Y.g__law_dip Y.F__law_dip.kp Y.b__law_dip .nil pass0 (pa_cons (pv 0) (pa_cons (pe_op op_ADD (pv 4) pe_int) pa_nil))) pa_nil)) (blkOk_by (own := [("_law_j", 12)]) (N := ["_law_well_here", "_law_pool_here", "_law_rows", "_law_many", "_law_most", "_law_pasts", "_law_history_here", "_law_k", "_law_snapshot", "_law_barred_here", "_law_notes", "_law_changes_here", "_law_j", "_law_key"]) (sc := defScope s__law_history) (by decide +kernel)) (fun _ _ _ _ _ => (pg_name (i := 12) sc__law_history.nd rfl (Or.inl rfl))) (fun _ _ _ _ _ => pts_nil) (fun _ _ _ _ _ => (pe_call G__law_note (hr.mono (by decide)) (by rfl) Y.g__law_note Y.F__law_note.kp Y.b__law_note .nil pass0 (pa_cons (pv 0) (pa_cons (pv 1) (pa_cons (pe_ix ix_SEQ (pv 5) (pv 8) (fun _ _ => rfl)) pa_nil)))))) pa_nil)))
      (pss_cons (ps_set (i := 11) sc__law_history.nd rfl (Or.inl rfl) (pe_call G__law_changes (hr.mono (by decide)) (by rfl) Y.g__law_changes Y.F__law_changes.kp Y.b__law_changes .nil pass0 (pa_cons (pv 0) (pa_cons (pe_lc (own := [("_law_key", 13)]) (by rfl) sc__law_history.nd (pi_list (pv 1)) (blkOk_by (own := [("_law_key", 13)]) (N := ["_law_well_here", "_law_pool_here", "_law_rows", "_law_many", "_law_most", "_law_pasts", "_law_history_here", "_law_k", "_law_snapshot", "_law_barred_here", "_law_notes", "_law_changes_here", "_law_j", "_law_key"]) (sc := defScope s__law_history) (by decide +kernel)) (fun _ _ _ _ _ => (pg_name (i := 13) sc__law_history.nd rfl (Or.inl rfl))) (fun _ _ _ _ _ => (pts_one (pt_cmpR op_NIN (pv 13) (pv 9) (by with_unfolding_all rfl)))) (fun _ _ _ _ _ => (pv 13))) (pa_cons (pv 4) pa_nil)))))
      (pss_cons (ps_set (i := 6) sc__law_history.nd rfl (Or.inl rfl) (pe_op op_ADD (pv 6) (pe_tup (pa_cons (pe_tup (pa_cons (pv 8) (pa_cons (pe_cmpR op_GT (pe_call G__law_dip (hr.mono (by decide)) (by rfl) Y.g__law_dip Y.F__law_dip.kp Y.b__law_dip .nil pass0 (pa_cons (pv 0) (pa_cons pe_int pa_nil))) pe_int (nomark _)) (pa_cons (pv 10) (pa_cons (pv 11) pa_nil))))) pa_nil))))
      (pss_one (ps_expr (pe_bm PySem.F.plainAttrs_list PySem.F.slot_list_append PySem.F.type_list_append mt_append (pv 5) (pa_cons (pe_call G__law_laid (hr.mono (by decide)) (by rfl) Y.g__law_laid Y.F__law_laid.kp Y.b__law_laid .nil pass0 (pa_cons (pe_ix ix_SEQ (pv 5) (pe_un un_NEG pe_int) (fun _ _ => rfl)) (pa_cons (pv 11) pa_nil))) pa_nil))))))))))
    (pss_one (ps_ret (pv 6)))))
def t__law_is_text (K : PySem.W.Frag)  : TS :=
    (tRet (tAndV (tCB (rISI K) (tCons (tVar 0) (tCons (tC (.ty "str")) tNil))) (tCB (rAll K) (tCons (tLc (iStr (tVar 0)) (gName 1) tYes (tAndV (tOp rLE (tC (.str " ")) (tVar 1)) (tOp rLE (tVar 1) (tC (.str "~")))) [1]) tNil))))
theorem b__law_is_text (Y : Fx K mg)   {f : Addr} {cdv : Value} {A : Around} {outer : List Env} {s : Shared} {H : Hp} {E : XK} (hr : Room 0 (A.deeper (envOfC "_law_is_text" (defScope s__law_is_text) s.heap.objs.size f cdv))) :
    PSs (cxOf CX0 P w K mg base ["_law_value", "_law_sign"] "_law_is_text" (defScope s__law_is_text) f cdv A outer s H E).nox (defBody s__law_is_text) (t__law_is_text K ) :=
    (pss_one (ps_ret (pe_and (pe_callB call_ISI (by rfl) Y.m_isinstance (by decide +kernel) (pa_cons (pv 0) (pa_cons (pe_bltn (v := .ty "str") (by rfl) Y.m_str (by decide +kernel) rfl) pa_nil))) (pe_one (pe_callB (cr_all rfl) (by rfl) Y.m_all (by decide +kernel) (pa_cons (pe_lc (own := [("_law_sign", 1)]) (by rfl) sc__law_is_text.nd (pi_str (pv 0)) (blkOk_by (own := [("_law_sign", 1)]) (N := ["_law_value", "_law_sign"]) (sc := defScope s__law_is_text) (by decide +kernel)) (fun _ _ _ _ _ => (pg_name (i := 1) sc__law_is_text.nd rfl (Or.inl rfl))) (fun _ _ _ _ _ => pts_nil) (fun _ _ _ _ _ => (pe_and (pe_cmpR op_LE pe_str (pv 1) (nomark _)) (pe_one (pe_cmpR op_LE (pv 1) pe_str (nomark _)))))) pa_nil))))))
def t__law_is_row (K : PySem.W.Frag) (sp__law_is_text : PySem.W.Frag → Sp) : TS :=
    (tSeq (tIfS (tOr (tNot (tTru1 K (tCB (rISI K) (tCons (tVar 0) (tCons (tC (.ty "tuple")) tNil))))) (tOr (tTest (tOp (rNE K) (tCB (rLEN K) (tCons (tVar 0) tNil)) (tC (.int 2)))) (tNot (tTru1 K (tCall (sp__law_is_text K) [] E0 (tCons (tOp (rIX K) (tVar 0) (tC (.int 0))) tNil)))))) (tRet (tC (.bl false))) tNext)
    (tRet (tOrV (tCall (sp__law_is_text K) [] E0 (tCons (tOp (rIX K) (tVar 0) (tC (.int 1))) tNil)) (tAndV (tVar 1) (tOp (rIS K) (tOp (rIX K) (tVar 0) (tC (.int 1))) (tC .non))))))
theorem b__law_is_row (Y : Fx K mg) {sp__law_is_text : PySem.W.Frag → Sp} (G__law_is_text : FnOk P w K mg base CX0 1 Y.a__law_is_text Y.fd__law_is_text ["_law_value"] (sp__law_is_text K)) {f : Addr} {cdv : Value} {A : Around} {outer : List Env} {s : Shared} {H : Hp} {E : XK} (hr : Room 1 (A.deeper (envOfC "_law_is_row" (defScope s__law_is_row) s.heap.objs.size f cdv))) :
    PSs (cxOf CX0 P w K mg base ["_law_row", "_law_may_go"] "_law_is_row" (defScope s__law_is_row) f cdv A outer s H E).nox (defBody s__law_is_row) (t__law_is_row K sp__law_is_text) :=
    (pss_cons (ps_if (PW.pt (pw_or (pt_not (pt_tru (pe_callB call_ISI (by rfl) Y.m_isinstance (by decide +kernel) (pa_cons (pv 0) (pa_cons (pe_bltn (v := .ty "tuple") (by rfl) Y.m_tuple (by decide +kernel) rfl) pa_nil))) (by intro _; rfl))) (pw_or (pt_cmpR (op_NE (hu_64 hr)) (pe_callB call_LEN (by rfl) Y.m_len (by decide +kernel) (pa_cons (pv 0) pa_nil)) pe_int (nomark _)) (pw_or1 (pt_not (pt_tru (pe_call G__law_is_text (hr.mono (by decide)) (by rfl) Y.g__law_is_text Y.F__law_is_text.kp Y.b__law_is_text .nil pass0 (pa_cons (pe_ix ix_SEQ (pv 0) pe_int (fun _ _ => rfl)) pa_nil)) (by intro _; rfl))))))) (pss_one (ps_ret pe_bl)) pss_nil)
    (pss_one (ps_ret (pe_or (pe_call G__law_is_text (hr.mono (by decide)) (by rfl) Y.g__law_is_text Y.F__law_is_text.kp Y.b__law_is_text .nil pass0 (pa_cons (pe_ix ix_SEQ (pv 0) pe_int (fun _ _ => rfl)) pa_nil)) (pe_one (pe_and (pv 1) (pe_one (pe_cmpR op_IS (pe_ix ix_SEQ (pv 0) pe_int (fun _ _ => rfl)) pe_non (nomark _)))))))))
def t__law_are_rows (K : PySem.W.Frag) (sp__law_is_row : PySem.W.Frag → Sp) : TS :=
    (tSeq (tIfS (tNot (tTru1 K (tCB (rISI K) (tCons (tVar 0) (tCons (tC (.ty "tuple")) tNil))))) (tRet (tC (.bl false))) tNext)
    (tSeq (tFor (iRng1 (tCons (tCB (rLEN K) (tCons (tVar 0) tNil)) tNil)) (gName 2) (tIfS (tOr (tNot (tTru1 K (tCall (sp__law_is_row K) [] E0 (tCons (tOp (rIX K) (tVar 0) (tVar 2)) (tCons (tVar 1) tNil))))) (tAnd (tTest (tOp rGT (tVar 2) (tC (.int 0)))) (tNot (tTest (tOp rLT (tOp (rIX K) (tOp (rIX K) (tVar 0) (tOp rSUB (tVar 2) (tC (.int 1)))) (tC (.int 0))) (tOp (rIX K) (tOp (rIX K) (tVar 0) (tVar 2)) (tC (.int 0)))))))) (tRet (tC (.bl false))) tNext))
    (tRet (tC (.bl true)))))
theorem b__law_are_rows (Y : Fx K mg) {sp__law_is_row : PySem.W.Frag → Sp} (G__law_is_row : FnOk P w K mg base CX0 2 Y.a__law_is_row Y.fd__law_is_row ["_law_row", "_law_may_go"] (sp__law_is_row K)) {f : Addr} {cdv : Value} {A : Around} {outer : List Env} {s : Shared} {H : Hp} {E : XK} (hr : Room 2 (A.deeper (envOfC "_law_are_rows" (defScope s__law_are_rows) s.heap.objs.size f cdv))) :
    PSs (cxOf CX0 P w K mg base ["_law_value", "_law_may_go", "_law_k"] "_law_are_rows" (defScope s__law_are_rows) f cdv A outer s H E).nox (defBody s__law_are_rows) (t__law_are_rows K sp__law_is_row) :=
    (pss_cons (ps_if (pt_not (pt_tru (pe_callB call_ISI (by rfl) Y.m_isinstance (by decide +kernel) (pa_cons (pv 0) (pa_cons (pe_bltn (v := .ty "tuple") (by rfl) Y.m_tuple (by decide +kernel) rfl) pa_nil))) (by intro _; rfl))) (pss_one (ps_ret pe_bl)) pss_nil)
    (pss_cons (ps_for PassesOwn.never rfl (pi_range1 (by rfl) Y.m_range (pa_cons (pe_callB call_LEN (by rfl) Y.m_len (by decide +kernel) (pa_cons (pv 0) pa_nil)) pa_nil)) (pg_name (i := 2) sc__law_are_rows.nd rfl (Or.inl rfl)) (pss_one (ps_if (PW.pt (pw_or (pt_not (pt_tru (pe_call G__law_is_row (hr.mono (by decide)) (by rfl) Y.g__law_is_row Y.F__law_is_row.kp Y.b__law_is_row .nil pass0 (pa_cons (pe_ix ix_SEQ (pv 0) (pv 2) (fun _ _ => rfl)) (pa_cons (pv 1) pa_nil))) (by intro _; rfl))) (pw_or1 (PW.pt (pw_and (pt_cmpR op_GT (pv 2) pe_int (nomark _)) (pw_and1 (pt_not (pt_cmpR op_LT (pe_ix ix_SEQ (pe_ix ix_SEQ (pv 0) (pe_op op_SUB (pv 2) pe_int) (fun _ _ => rfl)) pe_int (fun _ _ => rfl)) (pe_ix ix_SEQ (pe_ix ix_SEQ (pv 0) (pv 2) (fun _ _ => rfl)) pe_int (fun _ _ => rfl)) (nomark _))))))))) (pss_one (ps_ret pe_bl)) pss_nil)))
    (pss_one (ps_ret pe_bl))))
def t__law_is_note (K : PySem.W.Frag) (sp__law_are_rows : PySem.W.Frag → Sp) (sp__law_is_text : PySem.W.Frag → Sp) : TS :=
    (tSeq (tIfS (tOr (tNot (tTru1 K (tCB (rISI K) (tCons (tVar 0) (tCons (tC (.ty "tuple")) tNil))))) (tOr (tTest (tOp (rNINU K) (tCB (rLEN K) (tCons (tVar 0) tNil)) (tLst (tCons (tC (.int 3)) (tCons (tC (.int 4)) tNil))))) (tNot (tTru1 K (tCB (rISI K) (tCons (tOp (rIX K) (tVar 0) (tC (.int 0))) (tCons (tC (.ty "str")) tNil))))))) (tRet (tC (.bl false))) tNext)
    (tSeq (tIfS (tAnd (tTest (tOp (rEQ K) (tOp (rIX K) (tVar 0) (tC (.int 0))) (tC (.str "value")))) (tTest (tOp (rEQ K) (tCB (rLEN K) (tCons (tVar 0) tNil)) (tC (.int 3))))) (tRet (tAndV (tCall (sp__law_is_text K) [] E0 (tCons (tOp (rIX K) (tVar 0) (tC (.int 1))) tNil)) (tOrV (tOp (rIS K) (tOp (rIX K) (tVar 0) (tC (.int 2))) (tC .non)) (tCall (sp__law_is_text K) [] E0 (tCons (tOp (rIX K) (tVar 0) (tC (.int 2))) tNil))))) tNext)
    (tSeq (tIfS (tOr (tTest (tOp (rNE K) (tOp (rIX K) (tVar 0) (tC (.int 0))) (tC (.str "entries")))) (tOr (tTest (tOp (rNE K) (tCB (rLEN K) (tCons (tVar 0) tNil)) (tC (.int 4)))) (tNot (tTru1 K (tCall (sp__law_are_rows K) [] E0 (tCons (tOp (rIX K) (tVar 0) (tC (.int 3))) (tCons (tC (.bl false)) tNil))))))) (tRet (tC (.bl false))) tNext)
    (tRet (tCB (rAll K) (tCons (tLc (iTup K (tSl (rSL K) (tVar 0) (tPart (tC (.int 1))) (tPart (tC (.int 3))))) (gName 1) tYes (tOrV (tOp (rIS K) (tVar 1) (tC .non)) (tCall (sp__law_is_text K) [] E0 (tCons (tVar 1) tNil))) [1]) tNil))))))
theorem b__law_is_note (Y : Fx K mg) {sp__law_are_rows : PySem.W.Frag → Sp} {sp__law_is_text : PySem.W.Frag → Sp} (G__law_are_rows : FnOk P w K mg base CX0 3 Y.a__law_are_rows Y.fd__law_are_rows ["_law_value", "_law_may_go"] (sp__law_are_rows K)) (G__law_is_text : FnOk P w K mg base CX0 1 Y.a__law_is_text Y.fd__law_is_text ["_law_value"] (sp__law_is_text K)) {f : Addr} {cdv : Value} {A : Around} {outer : List Env} {s : Shared} {H : Hp} {E : XK} (hr : Room 3 (A.deeper (envOfC "_law_is_note" (defScope s__law_is_note) s.heap.objs.size f cdv))) :
    PSs (cxOf CX0 P w K mg base ["_law_value", "_law_end"] "_law_is_note" (defScope s__law_is_note) f cdv A outer s H E).nox (defBody s__law_is_note) (t__law_is_note K sp__law_are_rows sp__law_is_text) :=
    (pss_cons (ps_if (PW.pt (pw_or (pt_not (pt_tru (pe_callB call_ISI (by rfl) Y.m_isinstance (by decide +kernel) (pa_cons (pv 0) (pa_cons (pe_bltn (v := .ty "tuple") (by rfl) Y.m_tuple (by decide +kernel) rfl) pa_nil))) (by intro _; rfl))) (pw_or (pt_cmpR op_NIN (pe_callB call_LEN (by rfl) Y.m_len (by decide +kernel) (pa_cons (pv 0) pa_nil)) (pe_lst (pa_cons pe_int (pa_cons pe_int pa_nil))) (by with_unfolding_all rfl)) (pw_or1 (pt_not (pt_tru (pe_callB call_ISI (by rfl) Y.m_isinstance (by decide +kernel) (pa_cons (pe_ix ix_SEQ (pv 0) pe_int (fun _ _ => rfl)) (pa_cons (pe_bltn (v := .ty "str") (by rfl) Y.m_str (by decide +kernel) rfl) pa_nil))) (by intro _; rfl))))))) (pss_one (ps_ret pe_bl)) pss_nil)
    (pss_cons (ps_if (PW.pt (pw_and (pt_cmpR (op_EQ (hu_64 hr)) (pe_ix ix_SEQ (pv 0) pe_int (fun _ _ => rfl)) pe_str (nomark _)) (pw_and1 (pt_cmpR (op_EQ (hu_64 hr)) (pe_callB call_LEN (by rfl) Y.m_len (by decide +kernel) (pa_cons (pv 0) pa_nil)) pe_int (nomark _))))) (pss_one (ps_ret (pe_and (pe_call G__law_is_text (hr.mono (by decide)) (by rfl) Y.g__law_is_text Y.F__law_is_text.kp Y.b__law_is_text .nil pass0 (pa_cons (pe_ix ix_SEQ (pv 0) pe_int (fun _ _ => rfl)) pa_nil)) (pe_one (pe_or (pe_cmpR op_IS (pe_ix ix_SEQ (pv 0) pe_int (fun _ _ => rfl)) pe_non (nomark _)) (pe_one (pe_call G__law_is_text (hr.mono (by decide)) (by rfl) Y.g__law_is_text Y.F__law_is_text.kp Y.b__law_is_text .nil pass0 (pa_cons (pe_ix ix_SEQ (pv 0) pe_int (fun _ _ => rfl)) pa_nil)))))))) pss_nil)
    (pss_cons (ps_if (PW.pt (pw_or (pt_cmpR (op_NE (hu_64 hr)) (pe_ix ix_SEQ (pv 0) pe_int (fun _ _ => rfl)) pe_str (nomark _)) (pw_or (pt_cmpR (op_NE (hu_64 hr)) (pe_callB call_LEN (by rfl) Y.m_len (by decide +kernel) (pa_cons (pv 0) pa_nil)) pe_int (nomark _)) (pw_or1 (pt_not (pt_tru (pe_call G__law_are_rows (hr.mono (by decide)) (by rfl) Y.g__law_are_rows Y.F__law_are_rows.kp Y.b__law_are_rows .nil pass0 (pa_cons (pe_ix ix_SEQ (pv 0) pe_int (fun _ _ => rfl)) (pa_cons pe_bl pa_nil))) (by intro _; rfl))))))) (pss_one (ps_ret pe_bl)) pss_nil)
    (pss_one (ps_ret (pe_callB (cr_all rfl) (by rfl) Y.m_all (by decide +kernel) (pa_cons (pe_lc (own := [("_law_end", 1)]) (by rfl) sc__law_is_note.nd (pi_tup (pe_slice sl_SEQ (pv 0) (po_some pe_int) (po_some pe_int))) (blkOk_by (own := [("_law_end", 1)]) (N := ["_law_value", "_law_end"]) (sc := defScope s__law_is_note) (by decide +kernel)) (fun _ _ _ _ _ => (pg_name (i := 1) sc__law_is_note.nd rfl (Or.inl rfl))) (fun _ _ _ _ _ => pts_nil) (fun _ _ _ _ _ => (pe_or (pe_cmpR op_IS (pv 1) pe_non (nomark _)) (pe_one (pe_call G__law_is_text (hr.mono (by decide)) (by rfl) Y.g__law_is_text Y.F__law_is_text.kp Y.b__law_is_text .nil pass0 (pa_cons (pv 1) pa_nil)))))) pa_nil)))))))
def t__law_is_commit (K : PySem.W.Frag) (sp__law_are_rows : PySem.W.Frag → Sp) (sp__law_is_note : PySem.W.Frag → Sp) : TS :=
    (tSeq (tIfS (tOr (tNot (tTru1 K (tCB (rISI K) (tCons (tVar 0) (tCons (tC (.ty "tuple")) tNil))))) (tOr (tTest (tOp (rNE K) (tCB (rLEN K) (tCons (tVar 0) tNil)) (tC (.int 4)))) (tNot (tTru1 K (tCB (rISI K) (tCons (tOp (rIX K) (tVar 0) (tC (.int 1))) (tCons (tC (.ty "bool")) tNil))))))) (tRet (tC (.bl false))) tNext)
    (tSeq (tIfS (tOr (tNot (tTru1 K (tCB (rISI K) (tCons (tOp (rIX K) (tVar 0) (tC (.int 0))) (tCons (tC (.ty "int")) tNil))))) (tOr (tTru1 K (tCB (rISI K) (tCons (tOp (rIX K) (tVar 0) (tC (.int 0))) (tCons (tC (.ty "bool")) tNil)))) (tOr (tTest (tOp rLT (tOp (rIX K) (tVar 0) (tC (.int 0))) (tC (.int 0)))) (tTest (tOp rGE (tOp (rIX K) (tVar 0) (tC (.int 0))) (tVar 1)))))) (tRet (tC (.bl false))) tNext)
    (tSeq (tIfS (tOr (tNot (tTru1 K (tCB (rISI K) (tCons (tOp (rIX K) (tVar 0) (tC (.int 2))) (tCons (tC (.ty "tuple")) tNil))))) (tNot (tTru1 K (tCB (rAll K) (tCons (tLc (iTup K (tOp (rIX K) (tVar 0) (tC (.int 2)))) (gName 2) tYes (tCall (sp__law_is_note K) [] E0 (tCons (tVar 2) tNil)) [2]) tNil))))) (tRet (tC (.bl false))) tNext)
    (tRet (tCall (sp__law_are_rows K) [] E0 (tCons (tOp (rIX K) (tVar 0) (tC (.int 3))) (tCons (tC (.bl true)) tNil)))))))
theorem b__law_is_commit (Y : Fx K mg) {sp__law_are_rows : PySem.W.Frag → Sp} {sp__law_is_note : PySem.W.Frag → Sp} (G__law_are_rows : FnOk P w K mg base CX0 3 Y.a__law_are_rows Y.fd__law_are_rows ["_law_value", "_law_may_go"] (sp__law_are_rows K)) (G__law_is_note : FnOk P w K mg base CX0 4 Y.a__law_is_note Y.fd__law_is_note ["_law_value"] (sp__law_is_note K)) {f : Addr} {cdv : Value} {A : Around} {outer : List Env} {s : Shared} {H : Hp} {E : XK} (hr : Room 4 (A.deeper (envOfC "_law_is_commit" (defScope s__law_is_commit) s.heap.objs.size f cdv))) :
    PSs (cxOf CX0 P w K mg base ["_law_value", "_law_number", "_law_note_here"] "_law_is_commit" (defScope s__law_is_commit) f cdv A outer s H E).nox (defBody s__law_is_commit) (t__law_is_commit K sp__law_are_rows sp__law_is_note) :=
    (pss_cons (ps_if (PW.pt (pw_or (pt_not (pt_tru (pe_callB call_ISI (by rfl) Y.m_isinstance (by decide +kernel) (pa_cons (pv 0) (pa_cons (pe_bltn (v := .ty "tuple") (by rfl) Y.m_tuple (by decide +kernel) rfl) pa_nil))) (by intro _; rfl))) (pw_or (pt_cmpR (op_NE (hu_64 hr)) (pe_callB call_LEN (by rfl) Y.m_len (by decide +kernel) (pa_cons (pv 0) pa_nil)) pe_int (nomark _)) (pw_or1 (pt_not (pt_tru (pe_callB call_ISI (by rfl) Y.m_isinstance (by decide +kernel) (pa_cons (pe_ix ix_SEQ (pv 0) pe_int (fun _ _ => rfl)) (pa_cons (pe_bltn (v := .ty "bool") (by rfl) Y.m_bool (by decide +kernel) rfl) pa_nil))) (by intro _; rfl))))))) (pss_one (ps_ret pe_bl)) pss_nil)
    (pss_cons (ps_if (PW.pt (pw_or (pt_not (pt_tru (pe_callB call_ISI (by rfl) Y.m_isinstance (by decide +kernel) (pa_cons (pe_ix ix_SEQ (pv 0) pe_int (fun _ _ => rfl)) (pa_cons (pe_bltn (v := .ty "int") (by rfl) Y.m_int (by decide +kernel) rfl) pa_nil))) (by intro _; rfl))) (pw_or (pt_tru (pe_callB call_ISI (by rfl) Y.m_isinstance (by decide +kernel) (pa_cons (pe_ix ix_SEQ (pv 0) pe_int (fun _ _ => rfl)) (pa_cons (pe_bltn (v := .ty "bool") (by rfl) Y.m_bool (by decide +kernel) rfl) pa_nil))) (by intro _; rfl)) (pw_or (pt_cmpR op_LT (pe_ix ix_SEQ (pv 0) pe_int (fun _ _ => rfl)) pe_int (nomark _)) (pw_or1 (pt_cmpR op_GE (pe_ix ix_SEQ (pv 0) pe_int (fun _ _ => rfl)) (pv 1) (nomark _))))))) (pss_one (ps_ret pe_bl)) pss_nil)
    (pss_cons (ps_if (PW.pt (pw_or (pt_not (pt_tru (pe_callB call_ISI (by rfl) Y.m_isinstance (by decide +kernel) (pa_cons (pe_ix ix_SEQ (pv 0) pe_int (fun _ _ => rfl)) (pa_cons (pe_bltn (v := .ty "tuple") (by rfl) Y.m_tuple (by decide +kernel) rfl) pa_nil))) (by intro _; rfl))) (pw_or1 (pt_not (pt_tru (pe_callB (cr_all rfl) (by rfl) Y.m_all (by decide +kernel) (pa_cons (pe_lc (own := [("_law_note_here", 2)]) (by rfl) sc__law_is_commit.nd (pi_tup (pe_ix ix_SEQ (pv 0) pe_int (fun _ _ => rfl))) (blkOk_by (own := [("_law_note_here", 2)]) (N := ["_law_value", "_law_number", "_law_note_here"]) (sc := defScope s__law_is_commit) (by decide +kernel)) (fun _ _ _ _ _ => (pg_name (i := 2) sc__law_is_commit.nd rfl (Or.inl rfl))) (fun _ _ _ _ _ => pts_nil) (fun _ _ _ _ _ => (pe_call G__law_is_note (hr.mono (by decide)) (by rfl) Y.g__law_is_note Y.F__law_is_note.kp Y.b__law_is_note .nil pass0 (pa_cons (pv 2) pa_nil)))) pa_nil)) (by intro _; rfl)))))) (pss_one (ps_ret pe_bl)) pss_nil)
    (pss_one (ps_ret (pe_call G__law_are_rows (hr.mono (by decide)) (by rfl) Y.g__law_are_rows Y.F__law_are_rows.kp Y.b__law_are_rows .nil pass0 (pa_cons (pe_ix ix_SEQ (pv 0) pe_int (fun _ _ => rfl)) (pa_cons pe_bl pa_nil))))))))
def t__law_is_history (K : PySem.W.Frag) (sp__law_is_commit : PySem.W.Frag → Sp) : TS :=
    (tRet (tAndV (tCB (rISI K) (tCons (tVar 0) (tCons (tC (.ty "tuple")) tNil))) (tCB (rAll K) (tCons (tLc (iRng1 (tCons (tCB (rLEN K) (tCons (tVar 0) tNil)) tNil)) (gName 1) tYes (tCall (sp__law_is_commit K) [] E0 (tCons (tOp (rIX K) (tVar 0) (tVar 1)) (tCons (tOp (rADD K) (tVar 1) (tC (.int 1))) tNil))) [1]) tNil))))
theorem b__law_is_history (Y : Fx K mg) {sp__law_is_commit : PySem.W.Frag → Sp} (G__law_is_commit : FnOk P w K mg base CX0 5 Y.a__law_is_commit Y.fd__law_is_commit ["_law_value", "_law_number"] (sp__law_is_commit K)) {f : Addr} {cdv : Value} {A : Around} {outer : List Env} {s : Shared} {H : Hp} {E : XK} (hr : Room 5 (A.deeper (envOfC "_law_is_history" (defScope s__law_is_history) s.heap.objs.size f cdv))) :
    PSs (cxOf CX0 P w K mg base ["_law_value", "_law_k"] "_law_is_history" (defScope s__law_is_history) f cdv A outer s H E).nox (defBody s__law_is_history) (t__law_is_history K sp__law_is_commit) :=
    (pss_one (ps_ret (pe_and (pe_callB call_ISI (by rfl) Y.m_isinstance (by decide +kernel) (pa_cons (pv 0) (pa_cons (pe_bltn (v := .ty "tuple") (by rfl) Y.m_tuple (by decide +kernel) rfl) pa_nil))) (pe_one (pe_callB (cr_all rfl) (by rfl) Y.m_all (by decide +kernel) (pa_cons (pe_lc (own := [("_law_k", 1)]) (by rfl) sc__law_is_history.nd (pi_range1 (by rfl) Y.m_range (pa_cons (pe_callB call_LEN (by rfl) Y.m_len (by decide +kernel) (pa_cons (pv 0) pa_nil)) pa_nil)) (blkOk_by (own := [("_law_k", 1)]) (N := ["_law_value", "_law_k"]) (sc := defScope s__law_is_history) (by decide +kernel)) (fun _ _ _ _ _ => (pg_name (i := 1) sc__law_is_history.nd rfl (Or.inl rfl))) (fun _ _ _ _ _ => pts_nil) (fun _ _ _ _ _ => (pe_call G__law_is_commit (hr.mono (by decide)) (by rfl) Y.g__law_is_commit Y.F__law_is_commit.kp Y.b__law_is_commit .nil pass0 (pa_cons (pe_ix ix_SEQ (pv 0) (pv 1) (fun _ _ => rfl)) (pa_cons (pe_op op_ADD (pv 1) pe_int) pa_nil))))) pa_nil))))))
def t__law_odd (K : PySem.W.Frag) (sp__law_dip : PySem.W.Frag → Sp) : TS :=
    (tSeq (tAsg (tLst (tCons (tC .non) (tCons (tC (.bl true)) (tCons (tC (.bl false)) (tCons (tC (.int 0)) (tCons (tUn rNEG (tC (.int 1))) (tCons (tOp rPOW (tC (.int 10)) (tC (.int 30))) (tCons (tC (.str "")) (tCons (tC (.str "a\n")) (tCons (tC (.str "\ta")) (tCons (tC (.str "ab")) (tCons (tC (.str "value")) (tCons (tTup tNil) (tCons (tLst tNil) (tCons (tTup (tCons (tC (.str "a")) tNil)) (tCons (tTup (tCons (tC (.str "a")) (tCons (tC (.str "b")) (tCons (tC (.str "c")) tNil)))) (tCons (tLst (tCons (tC (.str "a")) (tCons (tC (.str "b")) tNil))) tNil))))))))))))))))) (gName 1))
    (tSeq (tAsg (tOp (rADD K) (tVar 1) (tLst (tCons (tTup (tCons (tC (.str "a")) (tCons (tC (.int 0)) tNil))) (tCons (tTup (tCons (tC (.int 0)) (tCons (tC (.str "a")) tNil))) (tCons (tTup (tCons (tC .non) (tCons (tC (.str "a")) tNil))) (tCons (tTup (tCons (tC (.str "a")) (tCons (tTup (tCons (tC (.str "b")) tNil)) tNil))) (tCons (tTup (tCons (tC (.str "a\n")) (tCons (tC (.str "b")) tNil))) (tCons (tTup (tCons (tC (.str "a")) (tCons (tC (.str "b\t")) tNil))) (tCons (tTup (tCons (tC (.str "a")) (tCons (tC (.str "")) tNil))) (tCons (tTup (tCons (tC (.str "")) (tCons (tC .non) tNil))) tNil)))))))))) (gName 1))
    (tRet (tOp (rIX K) (tVar 1) (tCall (sp__law_dip K) [] E0 (tCons (tVar 0) (tCons (tC (.int 24)) tNil)))))))
theorem b__law_odd (Y : Fx K mg) {sp__law_dip : PySem.W.Frag → Sp} (G__law_dip : FnOk P w K mg base CX0 1 Y.a__law_dip Y.fd__law_dip ["_law_well_here", "_law_many"] (sp__law_dip K)) {f : Addr} {cdv : Value} {A : Around} {outer : List Env} {s : Shared} {H : Hp} {E : XK} (hr : Room 1 (A.deeper (envOfC "_law_odd" (defScope s__law_odd) s.heap.objs.size f cdv))) :
    PSs (cxOf CX0 P w K mg base ["_law_well_here", "_law_odd_here"] "_law_odd" (defScope s__law_odd) f cdv A outer s H E).nox (defBody s__law_odd) (t__law_odd K sp__law_dip) :=
    (pss_cons (ps_set (i := 1) sc__law_odd.nd rfl (Or.inl rfl) (pe_lst (pa_cons pe_non (pa_cons pe_bl (pa_cons pe_bl (pa_cons pe_int (pa_cons (pe_un un_NEG pe_int) (pa_cons (pe_op op_POW pe_int pe_int) (pa_cons pe_str (pa_cons pe_str (pa_cons pe_str (pa_cons pe_str (pa_cons pe_str (pa_cons (pe_tup pa_nil) (pa_cons (pe_lst pa_nil) (pa_cons (pe_tup (pa_cons pe_str pa_nil)) (pa_cons (pe_tup (pa_cons pe_str (pa_cons pe_str (pa_cons pe_str pa_nil)))) (pa_cons (pe_lst (pa_cons pe_str (pa_cons pe_str pa_nil))) pa_nil))))))))))))))))))
    (pss_cons (ps_set (i := 1) sc__law_odd.nd rfl (Or.inl rfl) (pe_op op_ADD (pv 1) (pe_lst (pa_cons (pe_tup (pa_cons pe_str (pa_cons pe_int pa_nil))) (pa_cons (pe_tup (pa_cons pe_int (pa_cons pe_str pa_nil))) (pa_cons (pe_tup (pa_cons pe_non (pa_cons pe_str pa_nil))) (pa_cons (pe_tup (pa_cons pe_str (pa_cons (pe_tup (pa_cons pe_str pa_nil)) pa_nil))) (pa_cons (pe_tup (pa_cons pe_str (pa_cons pe_str pa_nil))) (pa_cons (pe_tup (pa_cons pe_str (pa_cons pe_str pa_nil))) (pa_cons (pe_tup (pa_cons pe_str (pa_cons pe_str pa_nil))) (pa_cons (pe_tup (pa_cons pe_str (pa_cons pe_non pa_nil))) pa_nil)))))))))))
    (pss_one (ps_ret (pe_ix ix_SEQ (pv 1) (pe_call G__law_dip (hr.mono (by decide)) (by rfl) Y.g__law_dip Y.F__law_dip.kp Y.b__law_dip .nil pass0 (pa_cons (pv 0) (pa_cons pe_int pa_nil))) (fun _ _ => rfl))))))
def t__law_put (K : PySem.W.Frag)  : TS :=
    (tRet (tOp (rADD K) (tOp (rADD K) (tSl (rSL K) (tVar 0) tNoPart (tPart (tVar 1))) (tTup (tCons (tVar 2) tNil))) (tSl (rSL K) (tVar 0) (tPart (tOp (rADD K) (tVar 1) (tC (.int 1)))) tNoPart)))
theorem b__law_put (Y : Fx K mg)   {f : Addr} {cdv : Value} {A : Around} {outer : List Env} {s : Shared} {H : Hp} {E : XK} (hr : Room 0 (A.deeper (envOfC "_law_put" (defScope s__law_put) s.heap.objs.size f cdv))) :
    PSs (cxOf CX0 P w K mg base ["_law_value", "_law_at", "_law_part"] "_law_put" (defScope s__law_put) f cdv A outer s H E).nox (defBody s__law_put) (t__law_put K ) :=
    (pss_one (ps_ret (pe_op op_ADD (pe_op op_ADD (pe_slice sl_SEQ (pv 0) po_none (po_some (pv 1))) (pe_tup (pa_cons (pv 2) pa_nil))) (pe_slice sl_SEQ (pv 0) (po_some (pe_op op_ADD (pv 1) pe_int)) po_none))))
def t__law_odd_rows (K : PySem.W.Frag) (sp__law_dip : PySem.W.Frag → Sp) (sp__law_odd : PySem.W.Frag → Sp) : TS :=
    (tSeq (tAsg (tCall (sp__law_dip K) [] E0 (tCons (tVar 0) (tCons (tOp (rADD K) (tCB (rLEN K) (tCons (tVar 1) tNil)) (tC (.int 1))) tNil))) (gName 2))
    (tSeq (tAsg (tOp (rADD K) (tOp (rADD K) (tSl (rSL K) (tVar 1) tNoPart (tPart (tVar 2))) (tTup (tCons (tCall (sp__law_odd K) [] E0 (tCons (tVar 0) tNil)) tNil))) (tSl (rSL K) (tVar 1) (tPart (tOp (rADD K) (tVar 2) (tCall (sp__law_dip K) [] E0 (tCons (tVar 0) (tCons (tC (.int 2)) tNil))))) tNoPart)) (gName 3))
    (tSeq (tAsg (tOp (rADD K) (tSl (rSL K) (tVar 1) (tPart (tUn rNEG (tC (.int 1)))) tNoPart) (tSl (rSL K) (tVar 1) tNoPart (tPart (tUn rNEG (tC (.int 1)))))) (gName 4))
    (tRet (tOp (rIX K) (tLst (tCons (tVar 3) (tCons (tCB (rLIST K) (tCons (tVar 1) tNil)) (tCons (tOp (rADD K) (tVar 1) (tSl (rSL K) (tVar 1) tNoPart (tPart (tC (.int 1))))) (tCons (tVar 4) (tCons (tRevT K (tVar 1)) (tCons (tCall (sp__law_odd K) [] E0 (tCons (tVar 0) tNil)) (tCons (tOp (rADD K) (tVar 3) (tSl (rSL K) (tVar 3) tNoPart (tPart (tC (.int 1))))) tNil)))))))) (tCall (sp__law_dip K) [] E0 (tCons (tVar 0) (tCons (tC (.int 7)) tNil))))))))
theorem b__law_odd_rows (Y : Fx K mg) {sp__law_dip : PySem.W.Frag → Sp} {sp__law_odd : PySem.W.Frag → Sp} (G__law_dip : FnOk P w K mg base CX0 1 Y.a__law_dip Y.fd__law_dip ["_law_well_here", "_law_many"] (sp__law_dip K)) (G__law_odd : FnOk P w K mg base CX0 2 Y.a__law_odd Y.fd__law_odd ["_law_well_here"] (sp__law_odd K)) {f : Addr} {cdv : Value} {A : Around} {outer : List Env} {s : Shared} {H : Hp} {E : XK} (hr : Room 2 (A.deeper (envOfC "_law_odd_rows" (defScope s__law_odd_rows) s.heap.objs.size f cdv))) :
    PSs (cxOf CX0 P w K mg base ["_law_well_here", "_law_rows", "_law_at", "_law_more", "_law_last"] "_law_odd_rows" (defScope s__law_odd_rows) f cdv A outer s H E).nox (defBody s__law_odd_rows) (t__law_odd_rows K sp__law_dip sp__law_odd) :=
    (pss_cons (ps_set (i := 2) sc__law_odd_rows.nd rfl (Or.inl rfl) (pe_call G__law_dip (hr.mono (by decide)) (by rfl) Y.g__law_dip Y.F__law_dip.kp Y.b__law_dip .nil pass0 (pa_cons (pv 0) (pa_cons (pe_op op_ADD (pe_callB call_LEN (by rfl) Y.m_len (by decide +kernel) (pa_cons (pv 1) pa_nil)) pe_int) pa_nil))))
    (pss_cons (ps_set (i := 3) sc__law_odd_rows.nd rfl (Or.inl rfl) (pe_op op_ADD (pe_op op_ADD (pe_slice sl_SEQ (pv 1) po_none (po_some (pv 2))) (pe_tup (pa_cons (pe_call G__law_odd (hr.mono (by decide)) (by rfl) Y.g__law_odd Y.F__law_odd.kp Y.b__law_odd .nil pass0 (pa_cons (pv 0) pa_nil)) pa_nil))) (pe_slice sl_SEQ (pv 1) (po_some (pe_op op_ADD (pv 2) (pe_call G__law_dip (hr.mono (by decide)) (by rfl) Y.g__law_dip Y.F__law_dip.kp Y.b__law_dip .nil pass0 (pa_cons (pv 0) (pa_cons pe_int pa_nil))))) po_none)))
    (pss_cons (ps_set (i := 4) sc__law_odd_rows.nd rfl (Or.inl rfl) (pe_op op_ADD (pe_slice sl_SEQ (pv 1) (po_some (pe_un un_NEG pe_int)) po_none) (pe_slice sl_SEQ (pv 1) po_none (po_some (pe_un un_NEG pe_int)))))
    (pss_one (ps_ret (pe_ix ix_SEQ (pe_lst (pa_cons (pv 3) (pa_cons (pe_callTy call_LIST (by rfl) Y.m_list (by decide +kernel) (pa_cons (pv 1) pa_nil)) (pa_cons (pe_op op_ADD (pv 1) (pe_slice sl_SEQ (pv 1) po_none (po_some pe_int))) (pa_cons (pv 4) (pa_cons (pe_revT (pv 1)) (pa_cons (pe_call G__law_odd (hr.mono (by decide)) (by rfl) Y.g__law_odd Y.F__law_odd.kp Y.b__law_odd .nil pass0 (pa_cons (pv 0) pa_nil)) (pa_cons (pe_op op_ADD (pv 3) (pe_slice sl_SEQ (pv 3) po_none (po_some pe_int))) pa_nil)))))))) (pe_call G__law_dip (hr.mono (by decide)) (by rfl) Y.g__law_dip Y.F__law_dip.kp Y.b__law_dip .nil pass0 (pa_cons (pv 0) (pa_cons pe_int pa_nil))) (fun _ _ => rfl)))))))
def t__law_odd_note (K : PySem.W.Frag) (sp__law_dip : PySem.W.Frag → Sp) (sp__law_odd : PySem.W.Frag → Sp) (sp__law_odd_rows : PySem.W.Frag → Sp) (sp__law_put : PySem.W.Frag → Sp) : TS :=
    (tSeq (tAsg (tCall (sp__law_dip K) [] E0 (tCons (tVar 0) (tCons (tC (.int 6)) tNil))) (gName 2))
    (tSeq (tIfS (tTest (tOp (rEQ K) (tVar 2) (tC (.int 0)))) (tRet (tOp (rIX K) (tLst (tCons (tCB (rLIST K) (tCons (tVar 1) tNil)) (tCons (tSl (rSL K) (tVar 1) tNoPart (tPart (tUn rNEG (tC (.int 1))))) (tCons (tOp (rADD K) (tVar 1) (tTup (tCons (tC .non) tNil))) (tCons (tSl (rSL K) (tVar 1) (tPart (tC (.int 1))) tNoPart) (tCons (tSl (rSL K) (tVar 1) tNoPart (tPart (tC (.int 2)))) (tCons (tCall (sp__law_odd K) [] E0 (tCons (tVar 0) tNil)) tNil))))))) (tCall (sp__law_dip K) [] E0 (tCons (tVar 0) (tCons (tC (.int 6)) tNil))))) tNext)
    (tSeq (tIfS (tTest (tOp (rEQ K) (tVar 2) (tC (.int 1)))) (tRet (tCall (sp__law_put K) [] E0 (tCons (tVar 1) (tCons (tC (.int 0)) (tCons (tOp (rIX K) (tLst (tCons (tC (.str "Value")) (tCons (tC (.str "entries")) (tCons (tC (.str "value")) (tCons (tC .non) (tCons (tC (.str "")) (tCons (tTup (tCons (tC (.str "value")) tNil)) (tCons (tC (.str "entry")) tNil)))))))) (tCall (sp__law_dip K) [] E0 (tCons (tVar 0) (tCons (tC (.int 7)) tNil)))) tNil))))) tNext)
    (tSeq (tIfS (tTest (tOp (rEQ K) (tVar 2) (tC (.int 2)))) (tRet (tCall (sp__law_put K) [] E0 (tCons (tVar 1) (tCons (tC (.int 1)) (tCons (tCall (sp__law_odd K) [] E0 (tCons (tVar 0) tNil)) tNil))))) tNext)
    (tSeq (tIfS (tOr (tTest (tOp (rEQ K) (tVar 2) (tC (.int 3)))) (tTest (tOp (rEQ K) (tCB (rLEN K) (tCons (tVar 1) tNil)) (tC (.int 3))))) (tRet (tCall (sp__law_put K) [] E0 (tCons (tVar 1) (tCons (tC (.int 2)) (tCons (tCall (sp__law_odd K) [] E0 (tCons (tVar 0) tNil)) tNil))))) tNext)
    (tRet (tCall (sp__law_put K) [] E0 (tCons (tVar 1) (tCons (tC (.int 3)) (tCons (tCall (sp__law_odd_rows K) [] E0 (tCons (tVar 0) (tCons (tOp (rIX K) (tVar 1) (tC (.int 3))) tNil))) tNil))))))))))
theorem b__law_odd_note (Y : Fx K mg) {sp__law_dip : PySem.W.Frag → Sp} {sp__law_odd : PySem.W.Frag → Sp} {sp__law_odd_rows : PySem.W.Frag → Sp} {sp__law_put : PySem.W.Frag → Sp} (G__law_dip : FnOk P w K mg base CX0 1 Y.a__law_dip Y.fd__law_dip ["_law_well_here", "_law_many"] (sp__law_dip K)) (G__law_odd : FnOk P w K mg base CX0 2 Y.a__law_odd Y.fd__law_odd ["_law_well_here"] (sp__law_odd K)) (G__law_odd_rows : FnOk P w K mg base CX0 3 Y.a__law_odd_rows Y.fd__law_odd_rows ["_law_well_here", "_law_rows"] (sp__law_odd_rows K)) (G__law_put : FnOk P w K mg base CX0 1 Y.a__law_put Y.fd__law_put ["_law_value", "_law_at", "_law_part"] (sp__law_put K)) {f : Addr} {cdv : Value} {A : Around} {outer : List Env} {s : Shared} {H : Hp} {E : XK} (hr : Room 3 (A.deeper (envOfC "_law_odd_note" (defScope s__law_odd_note) s.heap.objs.size f cdv))) :
    PSs (cxOf CX0 P w K mg base ["_law_well_here", "_law_note_here", "_law_way"] "_law_odd_note" (defScope s__law_odd_note) f cdv A outer s H E).nox (defBody s__law_odd_note) (t__law_odd_note K sp__law_dip sp__law_odd sp__law_odd_rows sp__law_put) :=
    (pss_cons (ps_set (i := 2) sc__law_odd_note.nd rfl (Or.inl rfl) (pe_call G__law_dip (hr.mono (by decide)) (by rfl) Y.g__law_dip Y.F__law_dip.kp Y.b__law_dip .nil pass0 (pa_cons (pv 0) (pa_cons pe_int pa_nil))))
    (pss_cons (ps_if (pt_cmpR (op_EQ (hu_64 hr)) (pv 2) pe_int (nomark _)) (pss_one (ps_ret (pe_ix ix_SEQ (pe_lst (pa_cons (pe_callTy call_LIST (by rfl) Y.m_list (by decide +kernel) (pa_cons (pv 1) pa_nil)) (pa_cons (pe_slice sl_SEQ (pv 1) po_none (po_some (pe_un un_NEG pe_int))) (pa_cons (pe_op op_ADD (pv 1) (pe_tup (pa_cons pe_non pa_nil))) (pa_cons (pe_slice sl_SEQ (pv 1) (po_some pe_int) po_none) (pa_cons (pe_slice sl_SEQ (pv 1) po_none (po_some pe_int)) (pa_cons (pe_call G__law_odd (hr.mono (by decide)) (by rfl) Y.g__law_odd Y.F__law_odd.kp Y.b__law_odd .nil pass0 (pa_cons (pv 0) pa_nil)) pa_nil))))))) (pe_call G__law_dip (hr.mono (by decide)) (by rfl) Y.g__law_dip Y.F__law_dip.kp Y.b__law_dip .nil pass0 (pa_cons (pv 0) (pa_cons pe_int pa_nil))) (fun _ _ => rfl)))) pss_nil)
    (pss_cons (ps_if (pt_cmpR (op_EQ (hu_64 hr)) (pv 2) pe_int (nomark _)) (pss_one (ps_ret (pe_call G__law_put (hr.mono (by decide)) (by rfl) Y.g__law_put Y.F__law_put.kp Y.b__law_put .nil pass0 (pa_cons (pv 1) (pa_cons pe_int (pa_cons (pe_ix ix_SEQ (pe_lst (pa_cons pe_str (pa_cons pe_str (pa_cons pe_str (pa_cons pe_non (pa_cons pe_str (pa_cons (pe_tup (pa_cons pe_str pa_nil)) (pa_cons pe_str pa_nil)))))))) (pe_call G__law_dip (hr.mono (by decide)) (by rfl) Y.g__law_dip Y.F__law_dip.kp Y.b__law_dip .nil pass0 (pa_cons (pv 0) (pa_cons pe_int pa_nil))) (fun _ _ => rfl)) pa_nil)))))) pss_nil)
    (pss_cons (ps_if (pt_cmpR (op_EQ (hu_64 hr)) (pv 2) pe_int (nomark _)) (pss_one (ps_ret (pe_call G__law_put (hr.mono (by decide)) (by rfl) Y.g__law_put Y.F__law_put.kp Y.b__law_put .nil pass0 (pa_cons (pv 1) (pa_cons pe_int (pa_cons (pe_call G__law_odd (hr.mono (by decide)) (by rfl) Y.g__law_odd Y.F__law_odd.kp Y.b__law_odd .nil pass0 (pa_cons (pv 0) pa_nil)) pa_nil)))))) pss_nil)
    (pss_cons (ps_if (PW.pt (pw_or (pt_cmpR (op_EQ (hu_64 hr)) (pv 2) pe_int (nomark _)) (pw_or1 (pt_cmpR (op_EQ (hu_64 hr)) (pe_callB call_LEN (by rfl) Y.m_len (by decide +kernel) (pa_cons (pv 1) pa_nil)) pe_int (nomark _))))) (pss_one (ps_ret (pe_call G__law_put (hr.mono (by decide)) (by rfl) Y.g__law_put Y.F__law_put.kp Y.b__law_put .nil pass0 (pa_cons (pv 1) (pa_cons pe_int (pa_cons (pe_call G__law_odd (hr.mono (by decide)) (by rfl) Y.g__law_odd Y.F__law_odd.kp Y.b__law_odd .nil pass0 (pa_cons (pv 0) pa_nil)) pa_nil)))))) pss_nil)
    (pss_one (ps_ret (pe_call G__law_put (hr.mono (by decide)) (by rfl) Y.g__law_put Y.F__law_put.kp Y.b__law_put .nil pass0 (pa_cons (pv 1) (pa_cons pe_int (pa_cons (pe_call G__law_odd_rows (hr.mono (by decide)) (by rfl) Y.g__law_odd_rows Y.F__law_odd_rows.kp Y.b__law_odd_rows .nil pass0 (pa_cons (pv 0) (pa_cons (pe_ix ix_SEQ (pv 1) pe_int (fun _ _ => rfl)) pa_nil))) pa_nil)))))))))))
def t__law_odd_commit (K : PySem.W.Frag) (sp__law_dip : PySem.W.Frag → Sp) (sp__law_odd : PySem.W.Frag → Sp) (sp__law_odd_note : PySem.W.Frag → Sp) (sp__law_odd_rows : PySem.W.Frag → Sp) (sp__law_put : PySem.W.Frag → Sp) : TS :=
    (tSeq (tAsg (tCall (sp__law_dip K) [] E0 (tCons (tVar 0) (tCons (tC (.int 8)) tNil))) (gName 3))
    (tSeq (tIfS (tTest (tOp (rEQ K) (tVar 3) (tC (.int 0)))) (tRet (tOp (rIX K) (tLst (tCons (tCB (rLIST K) (tCons (tVar 1) tNil)) (tCons (tSl (rSL K) (tVar 1) tNoPart (tPart (tUn rNEG (tC (.int 1))))) (tCons (tOp (rADD K) (tVar 1) (tTup (tCons (tTup tNil) tNil))) (tCons (tSl (rSL K) (tVar 1) (tPart (tC (.int 1))) tNoPart) (tCons (tTup tNil) (tCons (tCall (sp__law_odd K) [] E0 (tCons (tVar 0) tNil)) tNil))))))) (tCall (sp__law_dip K) [] E0 (tCons (tVar 0) (tCons (tC (.int 6)) tNil))))) tNext)
    (tSeq (tIfS (tTest (tOp (rEQ K) (tVar 3) (tC (.int 1)))) (tSeq (tAsg (tOp (rIX K) (tLst (tCons (tVar 2) (tCons (tOp (rADD K) (tVar 2) (tC (.int 1))) (tCons (tUn rNEG (tC (.int 1))) (tCons (tUn rNEG (tVar 2)) (tCons (tOp rPOW (tC (.int 10)) (tC (.int 20))) (tCons (tC (.bl true)) (tCons (tC (.bl false)) (tCons (tC .non) (tCons (tC (.str "0")) (tCons (tTup (tCons (tC (.int 0)) tNil)) (tCons (tOp rSUB (tVar 2) (tC (.int 1))) tNil)))))))))))) (tCall (sp__law_dip K) [] E0 (tCons (tVar 0) (tCons (tC (.int 11)) tNil)))) (gName 4))
      (tRet (tCall (sp__law_put K) [] E0 (tCons (tVar 1) (tCons (tC (.int 0)) (tCons (tVar 4) tNil)))))) tNext)
    (tSeq (tIfS (tTest (tOp (rEQ K) (tVar 3) (tC (.int 2)))) (tRet (tCall (sp__law_put K) [] E0 (tCons (tVar 1) (tCons (tC (.int 1)) (tCons (tOp (rIX K) (tLst (tCons (tC (.int 0)) (tCons (tC (.int 1)) (tCons (tC .non) (tCons (tC (.str "True")) (tCons (tTup tNil) (tCons (tTup (tCons (tC (.bl true)) tNil)) (tCons (tC (.bl true)) (tCons (tC (.bl false)) tNil))))))))) (tCall (sp__law_dip K) [] E0 (tCons (tVar 0) (tCons (tC (.int 8)) tNil)))) tNil))))) tNext)
    (tSeq (tIfS (tTest (tOp (rEQ K) (tVar 3) (tC (.int 3)))) (tRet (tCall (sp__law_put K) [] E0 (tCons (tVar 1) (tCons (tC (.int 3)) (tCons (tCall (sp__law_odd_rows K) [] E0 (tCons (tVar 0) (tCons (tOp (rIX K) (tVar 1) (tC (.int 3))) tNil))) tNil))))) tNext)
    (tSeq (tIfS (tOr (tTest (tOp (rEQ K) (tOp (rIX K) (tVar 1) (tC (.int 2))) (tTup tNil))) (tTest (tOp (rEQ K) (tVar 3) (tC (.int 4))))) (tRet (tCall (sp__law_put K) [] E0 (tCons (tVar 1) (tCons (tC (.int 2)) (tCons (tOp (rIX K) (tLst (tCons (tCB (rLIST K) (tCons (tOp (rIX K) (tVar 1) (tC (.int 2))) tNil)) (tCons (tOp (rADD K) (tOp (rIX K) (tVar 1) (tC (.int 2))) (tTup (tCons (tCall (sp__law_odd K) [] E0 (tCons (tVar 0) tNil)) tNil))) (tCons (tCall (sp__law_odd K) [] E0 (tCons (tVar 0) tNil)) tNil)))) (tCall (sp__law_dip K) [] E0 (tCons (tVar 0) (tCons (tC (.int 3)) tNil)))) tNil))))) tNext)
    (tSeq (tAsg (tCall (sp__law_dip K) [] E0 (tCons (tVar 0) (tCons (tCB (rLEN K) (tCons (tOp (rIX K) (tVar 1) (tC (.int 2))) tNil)) tNil))) (gName 5))
    (tRet (tCall (sp__law_put K) [] E0 (tCons (tVar 1) (tCons (tC (.int 2)) (tCons (tCall (sp__law_put K) [] E0 (tCons (tOp (rIX K) (tVar 1) (tC (.int 2))) (tCons (tVar 5) (tCons (tCall (sp__law_odd_note K) [] E0 (tCons (tVar 0) (tCons (tOp (rIX K) (tOp (rIX K) (tVar 1) (tC (.int 2))) (tVar 5)) tNil))) tNil)))) tNil))))))))))))
theorem b__law_odd_commit (Y : Fx K mg) {sp__law_dip : PySem.W.Frag → Sp} {sp__law_odd : PySem.W.Frag → Sp} {sp__law_odd_note : PySem.W.Frag → Sp} {sp__law_odd_rows : PySem.W.Frag → Sp} {sp__law_put : PySem.W.Frag → Sp} (G__law_dip : FnOk P w K mg base CX0 1 Y.a__law_dip Y.fd__law_dip ["_law_well_here", "_law_many"] (sp__law_dip K)) (G__law_odd : FnOk P w K mg base CX0 2 Y.a__law_odd Y.fd__law_odd ["_law_well_here"] (sp__law_odd K)) (G__law_odd_note : FnOk P w K mg base CX0 4 Y.a__law_odd_note Y.fd__law_odd_note ["_law_well_here", "_law_note_here"] (sp__law_odd_note K)) (G__law_odd_rows : FnOk P w K mg base CX0 3 Y.a__law_odd_rows Y.fd__law_odd_rows ["_law_well_here", "_law_rows"] (sp__law_odd_rows K)) (G__law_put : FnOk P w K mg base CX0 1 Y.a__law_put Y.fd__law_put ["_law_value", "_law_at", "_law_part"] (sp__law_put K)) {f : Addr} {cdv : Value} {A : Around} {outer : List Env} {s : Shared} {H : Hp} {E : XK} (hr : Room 4 (A.deeper (envOfC "_law_odd_commit" (defScope s__law_odd_commit) s.heap.objs.size f cdv))) :
    PSs (cxOf CX0 P w K mg base ["_law_well_here", "_law_commit", "_law_number", "_law_way", "_law_far", "_law_at"] "_law_odd_commit" (defScope s__law_odd_commit) f cdv A outer s H E).nox (defBody s__law_odd_commit) (t__law_odd_commit K sp__law_dip sp__law_odd sp__law_odd_note sp__law_odd_rows sp__law_put) :=
    (pss_cons (ps_set (i := 3) sc__law_odd_commit.nd rfl (Or.inl rfl) (pe_call G__law_dip (hr.mono (by decide)) (by rfl) Y.g__law_dip Y.F__law_dip.kp Y.b__law_dip .nil pass0 (pa_cons (pv 0) (pa_cons pe_int pa_nil))))
    (pss_cons (ps_if (pt_cmpR (op_EQ (hu_64 hr)) (pv 3) pe_int (nomark _)) (pss_one (ps_ret (pe_ix ix_SEQ (pe_lst (pa_cons (pe_callTy call_LIST (by rfl) Y.m_list (by decide +kernel) (pa_cons (pv 1) pa_nil)) (pa_cons (pe_slice sl_SEQ (pv 1) po_none (po_some (pe_un un_NEG pe_int))) (pa_cons (pe_op op_ADD (pv 1) (pe_tup (pa_cons (pe_tup pa_nil) pa_nil))) (pa_cons (pe_slice sl_SEQ (pv 1) (po_some pe_int) po_none) (pa_cons (pe_tup pa_nil) (pa_cons (pe_call G__law_odd (hr.mono (by decide)) (by rfl) Y.g__law_odd Y.F__law_odd.kp Y.b__law_odd .nil pass0 (pa_cons (pv 0) pa_nil)) pa_nil))))))) (pe_call G__law_dip (hr.mono (by decide)) (by rfl) Y.g__law_dip Y.F__law_dip.kp Y.b__law_dip .nil pass0 (pa_cons (pv 0) (pa_cons pe_int pa_nil))) (fun _ _ => rfl)))) pss_nil)
    (pss_cons (ps_if (pt_cmpR (op_EQ (hu_64 hr)) (pv 3) pe_int (nomark _)) (pss_cons (ps_set (i := 4) sc__law_odd_commit.nd rfl (Or.inl rfl) (pe_ix ix_SEQ (pe_lst (pa_cons (pv 2) (pa_cons (pe_op op_ADD (pv 2) pe_int) (pa_cons (pe_un un_NEG pe_int) (pa_cons (pe_un un_NEG (pv 2)) (pa_cons (pe_op op_POW pe_int pe_int) (pa_cons pe_bl (pa_cons pe_bl (pa_cons pe_non (pa_cons pe_str (pa_cons (pe_tup (pa_cons pe_int pa_nil)) (pa_cons (pe_op op_SUB (pv 2) pe_int) pa_nil)))))))))))) (pe_call G__law_dip (hr.mono (by decide)) (by rfl) Y.g__law_dip Y.F__law_dip.kp Y.b__law_dip .nil pass0 (pa_cons (pv 0) (pa_cons pe_int pa_nil))) (fun _ _ => rfl)))
      (pss_one (ps_ret (pe_call G__law_put (hr.mono (by decide)) (by rfl) Y.g__law_put Y.F__law_put.kp Y.b__law_put .nil pass0 (pa_cons (pv 1) (pa_cons pe_int (pa_cons (pv 4) pa_nil))))))) pss_nil)
    (pss_cons (ps_if (pt_cmpR (op_EQ (hu_64 hr)) (pv 3) pe_int (nomark _)) (pss_one (ps_ret (pe_call G__law_put (hr.mono (by decide)) (by rfl) Y.g__law_put Y.F__law_put.kp Y.b__law_put .nil pass0 (pa_cons (pv 1) (pa_cons pe_int (pa_cons (pe_ix ix_SEQ (pe_lst (pa_cons pe_int (pa_cons pe_int (pa_cons pe_non (pa_cons pe_str (pa_cons (pe_tup pa_nil) (pa_cons (pe_tup (pa_cons pe_bl pa_nil)) (pa_cons pe_bl (pa_cons pe_bl pa_nil))))))))) (pe_call G__law_dip (hr.mono (by decide)) (by rfl) Y.g__law_dip Y.F__law_dip.kp Y.b__law_dip .nil pass0 (pa_cons (pv 0) (pa_cons pe_int pa_nil))) (fun _ _ => rfl)) pa_nil)))))) pss_nil)
    (pss_cons (ps_if (pt_cmpR (op_EQ (hu_64 hr)) (pv 3) pe_int (nomark _)) (pss_one (ps_ret (pe_call G__law_put (hr.mono (by decide)) (by rfl) Y.g__law_put Y.F__law_put.kp Y.b__law_put .nil pass0 (pa_cons (pv 1) (pa_cons pe_int (pa_cons (pe_call G__law_odd_rows (hr.mono (by decide)) (by rfl) Y.g__law_odd_rows Y.F__law_odd_rows.kp Y.b__law_odd_rows .nil pass0 (pa_cons (pv 0) (pa_cons (pe_ix ix_SEQ (pv 1) pe_int (fun _ _ => rfl)) pa_nil))) pa_nil)))))) pss_nil)
    (pss_cons (ps_if (PW.pt (pw_or (pt_cmpR (op_EQ (hu_64 hr)) (pe_ix ix_SEQ (pv 1) pe_int (fun _ _ => rfl)) (pe_tup pa_nil) (nomark _)) (pw_or1 (pt_cmpR (op_EQ (hu_64 hr)) (pv 3) pe_int (nomark _))))) (pss_one (ps_ret (pe_call G__law_put (hr.mono (by decide)) (by rfl) Y.g__law_put Y.F__law_put.kp Y.b__law_put .nil pass0 (pa_cons (pv 1) (pa_cons pe_int (pa_cons (pe_ix ix_SEQ (pe_lst (pa_cons (pe_callTy call_LIST (by rfl) Y.m_list (by decide +kernel) (pa_cons (pe_ix ix_SEQ (pv 1) pe_int (fun _ _ => rfl)) pa_nil)) (pa_cons (pe_op op_ADD (pe_ix ix_SEQ (pv 1) pe_int (fun _ _ => rfl)) (pe_tup (pa_cons (pe_call G__law_odd (hr.mono (by decide)) (by rfl) Y.g__law_odd Y.F__law_odd.kp Y.b__law_odd .nil pass0 (pa_cons (pv 0) pa_nil)) pa_nil))) (pa_cons (pe_call G__law_odd (hr.mono (by decide)) (by rfl) Y.g__law_odd Y.F__law_odd.kp Y.b__law_odd .nil pass0 (pa_cons (pv 0) pa_nil)) pa_nil)))) (pe_call G__law_dip (hr.mono (by decide)) (by rfl) Y.g__law_dip Y.F__law_dip.kp Y.b__law_dip .nil pass0 (pa_cons (pv 0) (pa_cons pe_int pa_nil))) (fun _ _ => rfl)) pa_nil)))))) pss_nil)
    (pss_cons (ps_set (i := 5) sc__law_odd_commit.nd rfl (Or.inl rfl) (pe_call G__law_dip (hr.mono (by decide)) (by rfl) Y.g__law_dip Y.F__law_dip.kp Y.b__law_dip .nil pass0 (pa_cons (pv 0) (pa_cons (pe_callB call_LEN (by rfl) Y.m_len (by decide +kernel) (pa_cons (pe_ix ix_SEQ (pv 1) pe_int (fun _ _ => rfl)) pa_nil)) pa_nil))))
    (pss_one (ps_ret (pe_call G__law_put (hr.mono (by decide)) (by rfl) Y.g__law_put Y.F__law_put.kp Y.b__law_put .nil pass0 (pa_cons (pv 1) (pa_cons pe_int (pa_cons (pe_call G__law_put (hr.mono (by decide)) (by rfl) Y.g__law_put Y.F__law_put.kp Y.b__law_put .nil pass0 (pa_cons (pe_ix ix_SEQ (pv 1) pe_int (fun _ _ => rfl)) (pa_cons (pv 5) (pa_cons (pe_call G__law_odd_note (hr.mono (by decide)) (by rfl) Y.g__law_odd_note Y.F__law_odd_note.kp Y.b__law_odd_note .nil pass0 (pa_cons (pv 0) (pa_cons (pe_ix ix_SEQ (pe_ix ix_SEQ (pv 1) pe_int (fun _ _ => rfl)) (pv 5) (fun _ _ => rfl)) pa_nil))) pa_nil)))) pa_nil)))))))))))))
def t__law_right (K : PySem.W.Frag) (sp__law_is_history : PySem.W.Frag → Sp) (sp__law_is_note : PySem.W.Frag → Sp) (sp__law_same : PySem.W.Frag → Sp) (sp_is_history : PySem.W.Frag → Sp) (sp_is_note : PySem.W.Frag → Sp) : TS :=
    (tSeq (tAsg (tCB (rReprD K) (tCons (tVar 0) tNil)) (gName 1))
    (tSeq (tIfS (tNot (tTru1 K (tCall (sp__law_same K) [] E0 (tCons (tLst (tCons (tCall (sp_is_note K) [] E0 (tCons (tVar 0) tNil)) (tCons (tCallK0 (sp_is_note K) gV_kb_is_note_0 E0 (tCons (tVar 0) tNil)) tNil))) (tCons (tOp (rMUL K) (tLst (tCons (tCall (sp__law_is_note K) [] E0 (tCons (tVar 0) tNil)) tNil)) (tC (.int 2))) tNil))))) (tRet (tC (.bl false))) tNext)
    (tSeq (tIfS (tNot (tTru1 K (tCall (sp__law_same K) [] E0 (tCons (tLst (tCons (tCall (sp_is_history K) [] E0 (tCons (tVar 0) tNil)) (tCons (tCallK0 (sp_is_history K) gV_kb_is_history_0 E0 (tCons (tVar 0) tNil)) tNil))) (tCons (tOp (rMUL K) (tLst (tCons (tCall (sp__law_is_history K) [] E0 (tCons (tVar 0) tNil)) tNil)) (tC (.int 2))) tNil))))) (tRet (tC (.bl false))) tNext)
    (tRet (tOp (rEQ K) (tCB (rReprD K) (tCons (tVar 0) tNil)) (tVar 1))))))
theorem b__law_right (Y : Fx K mg) {sp__law_is_history : PySem.W.Frag → Sp} {sp__law_is_note : PySem.W.Frag → Sp} {sp__law_same : PySem.W.Frag → Sp} {sp_is_history : PySem.W.Frag → Sp} {sp_is_note : PySem.W.Frag → Sp} (G__law_is_history : FnOk P w K mg base CX0 6 Y.a__law_is_history Y.fd__law_is_history ["_law_value"] (sp__law_is_history K)) (G__law_is_note : FnOk P w K mg base CX0 4 Y.a__law_is_note Y.fd__law_is_note ["_law_value"] (sp__law_is_note K)) (G__law_same : FnOk P w K mg base CX0 5 Y.a__law_same Y.fd__law_same ["_law_found", "_law_due"] (sp__law_same K)) (G_is_history : FnOk P w K mg base CX0 7 Y.a_is_history Y.fd_is_history ["value"] (sp_is_history K)) (G_is_note : FnOk P w K mg base CX0 5 Y.a_is_note Y.fd_is_note ["value"] (sp_is_note K)) {f : Addr} {cdv : Value} {A : Around} {outer : List Env} {s : Shared} {H : Hp} {E : XK} (hgd : (A.deeper (envOfC "_law_right" (defScope s__law_right) s.heap.objs.size f cdv)).guards = some []) (hr : Room 7 (A.deeper (envOfC "_law_right" (defScope s__law_right) s.heap.objs.size f cdv))) :
    PSs (cxOf CX0 P w K mg base ["_law_value", "_law_kept"] "_law_right" (defScope s__law_right) f cdv A outer s H E).nox (defBody s__law_right) (t__law_right K sp__law_is_history sp__law_is_note sp__law_same sp_is_history sp_is_note) :=
    (pss_cons (ps_set (i := 1) sc__law_right.nd rfl (Or.inl rfl) (pe_callB (call_reprD hgd (hu_150 hr)) (by rfl) Y.m_repr (by decide +kernel) (pa_cons (pv 0) pa_nil)))
    (pss_cons (ps_if (pt_not (pt_tru (pe_call G__law_same (hr.mono (by decide)) (by rfl) Y.g__law_same Y.F__law_same.kp Y.b__law_same .nil pass0 (pa_cons (pe_lst (pa_cons (pe_call G_is_note (hr.mono (by decide)) (by rfl) Y.g_is_note Y.F_is_note.kp Y.b_is_note .nil pass0 (pa_cons (pv 0) pa_nil)) (pa_cons (pe_callK0 G_is_note (hr.mono (by decide)) (by rfl) Y.g_is_note Y.F_is_note.kp Y.kb_is_note_0 pass0 (pk_cons (pv 0) pk_nil)) pa_nil))) (pa_cons (pe_op op_MUL (pe_lst (pa_cons (pe_call G__law_is_note (hr.mono (by decide)) (by rfl) Y.g__law_is_note Y.F__law_is_note.kp Y.b__law_is_note .nil pass0 (pa_cons (pv 0) pa_nil)) pa_nil)) pe_int) pa_nil))) (by intro _; rfl))) (pss_one (ps_ret pe_bl)) pss_nil)
    (pss_cons (ps_if (pt_not (pt_tru (pe_call G__law_same (hr.mono (by decide)) (by rfl) Y.g__law_same Y.F__law_same.kp Y.b__law_same .nil pass0 (pa_cons (pe_lst (pa_cons (pe_call G_is_history (hr.mono (by decide)) (by rfl) Y.g_is_history Y.F_is_history.kp Y.b_is_history .nil pass0 (pa_cons (pv 0) pa_nil)) (pa_cons (pe_callK0 G_is_history (hr.mono (by decide)) (by rfl) Y.g_is_history Y.F_is_history.kp Y.kb_is_history_0 pass0 (pk_cons (pv 0) pk_nil)) pa_nil))) (pa_cons (pe_op op_MUL (pe_lst (pa_cons (pe_call G__law_is_history (hr.mono (by decide)) (by rfl) Y.g__law_is_history Y.F__law_is_history.kp Y.b__law_is_history .nil pass0 (pa_cons (pv 0) pa_nil)) pa_nil)) pe_int) pa_nil))) (by intro _; rfl))) (pss_one (ps_ret pe_bl)) pss_nil)
    (pss_one (ps_ret (pe_cmpR (op_EQ (hu_64 hr)) (pe_callB (call_reprD hgd (hu_150 hr)) (by rfl) Y.m_repr (by decide +kernel) (pa_cons (pv 0) pa_nil)) (pv 1) (nomark _)))))))
def t_law (K : PySem.W.Frag) (sp__law_dip : PySem.W.Frag → Sp) (sp__law_history : PySem.W.Frag → Sp) (sp__law_note : PySem.W.Frag → Sp) (sp__law_odd : PySem.W.Frag → Sp) (sp__law_odd_commit : PySem.W.Frag → Sp) (sp__law_odd_note : PySem.W.Frag → Sp) (sp__law_pool : PySem.W.Frag → Sp) (sp__law_put : PySem.W.Frag → Sp) (sp__law_right : PySem.W.Frag → Sp) (sp__law_well : PySem.W.Frag → Sp) (sp_is_history : PySem.W.Frag → Sp) (sp_is_note : PySem.W.Frag → Sp) : TS :=
    (tSeq (tFor (iList K (tOp (rADD K) (tLst (tCons (tC (.int 640273)) (tCons (tOp (rADD K) (tOp rPOW (tC (.int 10)) (tC (.int 60))) (tC (.int 5))) tNil))) (tSl (rSL K) (tVar 0) tNoPart (tPart (tC (.int 10)))))) (gName 1) (tSeq (tAsg (tCall (sp__law_well K) [] E0 (tCons (tVar 1) tNil)) (gName 2))
      (tSeq (tAsg (tCall (sp__law_pool K) [] E0 (tCons (tVar 2) (tCons (tOp (rADD K) (tC (.int 1)) (tCall (sp__law_dip K) [] E0 (tCons (tVar 2) (tCons (tC (.int 5)) tNil)))) tNil))) (gName 3))
      (tSeq (tAsg (tCall (sp__law_history K) [] E0 (tCons (tVar 2) (tCons (tVar 3) (tCons (tDisp [((tOp (rIX K) (tVar 3) (tC (.int 0))), (tC (.str "v")))]) (tCons (tCall (sp__law_dip K) [] E0 (tCons (tVar 2) (tCons (tC (.int 8)) tNil))) (tCons (tC (.int 3)) tNil)))))) (gName 4))
      (tSeq (tIfS (tOr (tNot (tTru1 K (tCall (sp__law_right K) [] E0 (tCons (tVar 4) tNil)))) (tTest (tOp (rISN K) (tCall (sp_is_history K) [] E0 (tCons (tVar 4) tNil)) (tC (.bl true))))) (tRet (tC (.bl false))) tNext)
      (tSeq (tFor (iTup K (tVar 4)) (gName 5) (tIfS (tOr (tNot (tTru1 K (tCB (rAll K) (tCons (tLc (iTup K (tOp (rIX K) (tVar 5) (tC (.int 2)))) (gName 8) tYes (tOp (rIS K) (tCall (sp_is_note K) [] E0 (tCons (tVar 8) tNil)) (tC (.bl true))) [8]) tNil)))) (tNot (tTru1 K (tCall (sp__law_right K) [] E0 (tCons (tVar 5) tNil))))) (tRet (tC (.bl false))) tNext))
      (tSeq (tAsg (tLst (tCons (tCall (sp__law_odd K) [] E0 (tCons (tVar 2) tNil)) (tCons (tCB (rLIST K) (tCons (tVar 4) tNil)) (tCons (tOp (rADD K) (tVar 4) (tTup (tCons (tCall (sp__law_odd K) [] E0 (tCons (tVar 2) tNil)) tNil))) (tCons (tTup (tCons (tVar 4) tNil)) tNil))))) (gName 6))
      (tSeq (tFor (iRng1 (tCons (tC (.int 5)) tNil)) (gName 7) (tSeq (tIfS (tTest (tOp (rNE K) (tVar 4) (tTup tNil))) (tSeq (tAsg (tCall (sp__law_dip K) [] E0 (tCons (tVar 2) (tCons (tCB (rLEN K) (tCons (tVar 4) tNil)) tNil))) (gName 9))
          (tSeq (tDrop (tBM K "list" rAppend (tVar 6) (tCons (tCall (sp__law_put K) [] E0 (tCons (tVar 4) (tCons (tVar 9) (tCons (tCall (sp__law_odd_commit K) [] E0 (tCons (tVar 2) (tCons (tOp (rIX K) (tVar 4) (tVar 9)) (tCons (tOp (rADD K) (tVar 9) (tC (.int 1))) tNil)))) tNil)))) tNil)))
          (tDrop (tBM K "list" rAppend (tVar 6) (tCons (tOp (rADD K) (tSl (rSL K) (tVar 4) tNoPart (tPart (tVar 9))) (tSl (rSL K) (tVar 4) (tPart (tOp (rADD K) (tVar 9) (tC (.int 1)))) tNoPart)) tNil))))) tNext)
        (tSeq (tAsg (tCall (sp__law_note K) [] E0 (tCons (tVar 2) (tCons (tVar 3) (tCons (tDisp [((tOp (rIX K) (tVar 3) (tC (.int 0))), (tC (.str "w")))]) tNil)))) (gName 8))
        (tAsg (tOp (rADD K) (tVar 6) (tLst (tCons (tVar 8) (tCons (tCall (sp__law_odd_note K) [] E0 (tCons (tVar 2) (tCons (tVar 8) tNil))) (tCons (tTup (tCons (tVar 8) tNil)) (tCons (tTup (tCons (tTup (tCons (tC (.int 0)) (tCons (tC (.bl true)) (tCons (tTup (tCons (tVar 8) tNil)) (tCons (tTup tNil) tNil))))) tNil)) tNil)))))) (gName 6)))))
      (tIfS (tNot (tTru1 K (tCB (rAll K) (tCons (tLc (iList K (tVar 6)) (gName 10) tYes (tCall (sp__law_right K) [] E0 (tCons (tVar 10) tNil)) [10]) tNil)))) (tRet (tC (.bl false))) tNext)))))))))
    (tRet (tC (.bl true))))
theorem b_law (Y : Fx K mg) {sp__law_dip : PySem.W.Frag → Sp} {sp__law_history : PySem.W.Frag → Sp} {sp__law_note : PySem.W.Frag → Sp} {sp__law_odd : PySem.W.Frag → Sp} {sp__law_odd_commit : PySem.W.Frag → Sp} {sp__law_odd_note : PySem.W.Frag → Sp} {sp__law_pool : PySem.W.Frag → Sp} {sp__law_put : PySem.W.Frag → Sp} {sp__law_right : PySem.W.Frag → Sp} {sp__law_well : PySem.W.Frag → Sp} {sp_is_history : PySem.W.Frag → Sp} {sp_is_note : PySem.W.Frag → Sp} (G__law_dip : FnOk P w K mg base CX0 1 Y.a__law_dip Y.fd__law_dip ["_law_well_here", "_law_many"] (sp__law_dip K)) (G__law_history : FnOk P w K mg base CX0 4 Y.a__law_history Y.fd__law_history ["_law_well_here", "_law_pool_here", "_law_rows", "_law_many", "_law_most"] (sp__law_history K)) (G__law_note : FnOk P w K mg base CX0 3 Y.a__law_note Y.fd__law_note ["_law_well_here", "_law_pool_here", "_law_rows"] (sp__law_note K)) (G__law_odd : FnOk P w K mg base CX0 2 Y.a__law_odd Y.fd__law_odd ["_law_well_here"] (sp__law_odd K)) (G__law_odd_commit : FnOk P w K mg base CX0 5 Y.a__law_odd_commit Y.fd__law_odd_commit ["_law_well_here", "_law_commit", "_law_number"] (sp__law_odd_commit K)) (G__law_odd_note : FnOk P w K mg base CX0 4 Y.a__law_odd_note Y.fd__law_odd_note ["_law_well_here", "_law_note_here"] (sp__law_odd_note K)) (G__law_pool : FnOk P w K mg base CX0 3 Y.a__law_pool Y.fd__law_pool ["_law_well_here", "_law_many"] (sp__law_pool K)) (G__law_put : FnOk P w K mg base CX0 1 Y.a__law_put Y.fd__law_put ["_law_value", "_law_at", "_law_part"] (sp__law_put K)) (G__law_right : FnG P w K mg base CX0 8 Y.a__law_right Y.fd__law_right ["_law_value"] (sp__law_right K)) (G__law_well : FnOk P w K mg base CX0 1 Y.a__law_well Y.fd__law_well ["_law_cell"] (sp__law_well K)) (G_is_history : FnOk P w K mg base CX0 7 Y.a_is_history Y.fd_is_history ["value"] (sp_is_history K)) (G_is_note : FnOk P w K mg base CX0 5 Y.a_is_note Y.fd_is_note ["value"] (sp_is_note K)) {f : Addr} {cdv : Value} {A : Around} {outer : List Env} {s : Shared} {H : Hp} {E : XK} (hgd : (A.deeper (envOfC "law" (defScope s_law) s.heap.objs.size f cdv)).guards = some []) (hr : Room 8 (A.deeper (envOfC "law" (defScope s_law) s.heap.objs.size f cdv))) :
    PSs (cxOf CX0 P w K mg base ["_law_script", "_law_cell", "_law_well_here", "_law_pool_here", "_law_history_here", "_law_commit", "_law_values", "_law_turn", "_law_note_here", "_law_at", "_law_value"] "law" (defScope s_law) f cdv A outer s H E).nox (defBody s_law) (t_law K sp__law_dip sp__law_history sp__law_note sp__law_odd sp__law_odd_commit sp__law_odd_note sp__law_pool sp__law_put sp__law_right sp__law_well sp_is_history sp_is_note) :=
    (pss_cons (ps_for PassesOwn.never rfl (pi_list (pe_op op_ADD (pe_lst (pa_cons pe_int (pa_cons (pe_op op_ADD (pe_op op_POW pe_int pe_int) pe_int) pa_nil))) (pe_slice sl_SEQ (pv 0) po_none (po_some pe_int)))) (pg_name (i := 1) sc_law.nd rfl (Or.inl rfl)) (pss_cons (ps_set (i := 2) sc_law.nd rfl (Or.inl rfl) (pe_call G__law_well (hr.mono (by decide)) (by rfl) Y.g__law_well Y.F__law_well.kp Y.b__law_well .nil pass0 (pa_cons (pv 1) pa_nil)))
      (pss_cons (ps_set (i := 3) sc_law.nd rfl (Or.inl rfl) (pe_call G__law_pool (hr.mono (by decide)) (by rfl) Y.g__law_pool Y.F__law_pool.kp Y.b__law_pool .nil pass0 (pa_cons (pv 2) (pa_cons (pe_op op_ADD pe_int (pe_call G__law_dip (hr.mono (by decide)) (by rfl) Y.g__law_dip Y.F__law_dip.kp Y.b__law_dip .nil pass0 (pa_cons (pv 2) (pa_cons pe_int pa_nil)))) pa_nil))))
      (pss_cons (ps_set (i := 4) sc_law.nd rfl (Or.inl rfl) (pe_call G__law_history (hr.mono (by decide)) (by rfl) Y.g__law_history Y.F__law_history.kp Y.b__law_history .nil pass0 (pa_cons (pv 2) (pa_cons (pv 3) (pa_cons (pe_disp (pps_cons (pe_ix ix_SEQ (pv 3) pe_int (fun _ _ => rfl)) pe_str pps_nil) (by rfl) (by rfl) (fun z => by cases z) (by decide)) (pa_cons (pe_call G__law_dip (hr.mono (by decide)) (by rfl) Y.g__law_dip Y.F__law_dip.kp Y.b__law_dip .nil pass0 (pa_cons (pv 2) (pa_cons pe_int pa_nil))) (pa_cons pe_int pa_nil)))))))
      (pss_cons (ps_if (PW.pt (pw_or (pt_not (pt_tru (pe_callG hgd G__law_right (hr.mono (by decide)) (by rfl) Y.g__law_right Y.F__law_right.kp Y.b__law_right pass0 (pa_cons (pv 4) pa_nil)) (by intro _; rfl))) (pw_or1 (pt_cmpR op_ISN (pe_call G_is_history (hr.mono (by decide)) (by rfl) Y.g_is_history Y.F_is_history.kp Y.b_is_history .nil pass0 (pa_cons (pv 4) pa_nil)) pe_bl (nomark _))))) (pss_one (ps_ret pe_bl)) pss_nil)
      (pss_cons (ps_for PassesOwn.never rfl (pi_tup (pv 4)) (pg_name (i := 5) sc_law.nd rfl (Or.inl rfl)) (pss_one (ps_if (PW.pt (pw_or (pt_not (pt_tru (pe_callB (cr_all rfl) (by rfl) Y.m_all (by decide +kernel) (pa_cons (pe_lc (own := [("_law_note_here", 8)]) (by rfl) sc_law.nd (pi_tup (pe_ix ix_SEQ (pv 5) pe_int (fun _ _ => rfl))) (blkOk_by (own := [("_law_note_here", 8)]) (N := ["_law_script", "_law_cell", "_law_well_here", "_law_pool_here", "_law_history_here", "_law_commit", "_law_values", "_law_turn", "_law_note_here", "_law_at", "_law_value"]) (sc := defScope s_law) (by decide +kernel)) (fun _ _ _ _ _ => (pg_name (i := 8) sc_law.nd rfl (Or.inl rfl))) (fun _ _ _ _ _ => pts_nil) (fun _ _ _ _ _ => (pe_cmpR op_IS (pe_call G_is_note (hr.mono (by decide)) (by rfl) Y.g_is_note Y.F_is_note.kp Y.b_is_note .nil pass0 (pa_cons (pv 8) pa_nil)) pe_bl (nomark _)))) pa_nil)) (by intro _; rfl))) (pw_or1 (pt_not (pt_tru (pe_callG hgd G__law_right (hr.mono (by decide)) (by rfl) Y.g__law_right Y.F__law_right.kp Y.b__law_right pass0 (pa_cons (pv 5) pa_nil)) (by intro _; rfl)))))) (pss_one (ps_ret pe_bl)) pss_nil)))
      (pss_cons (ps_set (i := 6) sc_law.nd rfl (Or.inl rfl) (pe_lst (pa_cons (pe_call G__law_odd (hr.mono (by decide)) (by rfl) Y.g__law_odd Y.F__law_odd.kp Y.b__law_odd .nil pass0 (pa_cons (pv 2) pa_nil)) (pa_cons (pe_callTy call_LIST (by rfl) Y.m_list (by decide +kernel) (pa_cons (pv 4) pa_nil)) (pa_cons (pe_op op_ADD (pv 4) (pe_tup (pa_cons (pe_call G__law_odd (hr.mono (by decide)) (by rfl) Y.g__law_odd Y.F__law_odd.kp Y.b__law_odd .nil pass0 (pa_cons (pv 2) pa_nil)) pa_nil))) (pa_cons (pe_tup (pa_cons (pv 4) pa_nil)) pa_nil))))))
      (pss_cons (ps_for PassesOwn.never rfl (pi_range1 (by rfl) Y.m_range (pa_cons pe_int pa_nil)) (pg_name (i := 7) sc_law.nd rfl (Or.inl rfl)) (pss_cons (ps_if (pt_cmpR (op_NE (hu_64 hr)) (pv 4) (pe_tup pa_nil) (nomark _)) (pss_cons (ps_set (i := 9) sc_law.nd rfl (Or.inl rfl) (pe_call G__law_dip (hr.mono (by decide)) (by rfl) Y.g__law_dip Y.F__law_dip.kp Y.b__law_dip .nil pass0 (pa_cons (pv 2) (pa_cons (pe_callB call_LEN (by rfl) Y.m_len (by decide +kernel) (pa_cons (pv 4) pa_nil)) pa_nil))))
          (pss_cons (ps_expr (pe_bm PySem.F.plainAttrs_list PySem.F.slot_list_append PySem.F.type_list_append mt_append (pv 6) (pa_cons (pe_call G__law_put (hr.mono (by decide)) (by rfl) Y.g__law_put Y.F__law_put.kp Y.b__law_put .nil pass0 (pa_cons (pv 4) (pa_cons (pv 9) (pa_cons (pe_call G__law_odd_commit (hr.mono (by decide)) (by rfl) Y.g__law_odd_commit Y.F__law_odd_commit.kp Y.b__law_odd_commit .nil pass0 (pa_cons (pv 2) (pa_cons (pe_ix ix_SEQ (pv 4) (pv 9) (fun _ _ => rfl)) (pa_cons (pe_op op_ADD (pv 9) pe_int) pa_nil)))) pa_nil)))) pa_nil)))
          (pss_one (ps_expr (pe_bm PySem.F.plainAttrs_list PySem.F.slot_list_append PySem.F.type_list_append mt_append (pv 6) (pa_cons (pe_op op_ADD (pe_slice sl_SEQ (pv 4) po_none (po_some (pv 9))) (pe_slice sl_SEQ (pv 4) (po_some (pe_op op_ADD (pv 9) pe_int)) po_none)) pa_nil)))))) pss_nil)
        (pss_cons (ps_set (i := 8) sc_law.nd rfl (Or.inl rfl) (pe_call G__law_note (hr.mono (by decide)) (by rfl) Y.g__law_note Y.F__law_note.kp Y.b__law_note .nil pass0 (pa_cons (pv 2) (pa_cons (pv 3) (pa_cons (pe_disp (pps_cons (pe_ix ix_SEQ (pv 3) pe_int (fun _ _ => rfl)) pe_str pps_nil) (by rfl) (by rfl) (fun z => by cases z) (by decide)) pa_nil)))))
        (pss_one (ps_set (i := 6) sc_law.nd rfl (Or.inl rfl) (pe_op op_ADD (pv 6) (pe_lst (pa_cons (pv 8) (pa_cons (pe_call G__law_odd_note (hr.mono (by decide)) (by rfl) Y.g__law_odd_note Y.F__law_odd_note.kp Y.b__law_odd_note .nil pass0 (pa_cons (pv 2) (pa_cons (pv 8) pa_nil))) (pa_cons (pe_tup (pa_cons (pv 8) pa_nil)) (pa_cons (pe_tup (pa_cons (pe_tup (pa_cons pe_int (pa_cons pe_bl (pa_cons (pe_tup (pa_cons (pv 8) pa_nil)) (pa_cons (pe_tup pa_nil) pa_nil))))) pa_nil)) pa_nil)))))))))))
      (pss_one (ps_if (pt_not (pt_tru (pe_callB (cr_all rfl) (by rfl) Y.m_all (by decide +kernel) (pa_cons (pe_lc (own := [("_law_value", 10)]) (by rfl) sc_law.nd (pi_list (pv 6)) (blkOk_by (own := [("_law_value", 10)]) (N := ["_law_script", "_law_cell", "_law_well_here", "_law_pool_here", "_law_history_here", "_law_commit", "_law_values", "_law_turn", "_law_note_here", "_law_at", "_law_value"]) (sc := defScope s_law) (by decide +kernel)) (fun _ _ _ _ _ => (pg_name (i := 10) sc_law.nd rfl (Or.inl rfl))) (fun _ _ _ _ _ => pts_nil) (fun _ _ _ _ _ => (pe_callG hgd G__law_right (hr.mono (by decide)) (by rfl) Y.g__law_right Y.F__law_right.kp Y.b__law_right pass0 (pa_cons (pv 10) pa_nil)))) pa_nil)) (by intro _; rfl))) (pss_one (ps_ret pe_bl)) pss_nil))))))))))
    (pss_one (ps_ret pe_bl)))
end
end My

set_option Elab.async false
set_option linter.all false
set_option maxRecDepth 100000
set_option maxHeartbeats 1000000
namespace My
open PySem PySem.Spec PyProof.Rows L2
local macro_rules | `(tactic| walk_at "len") => `(tactic| first | assumption | omega | decide | (simp only [List.length_append, List.length_take, List.length_drop, List.length_cons, List.length_nil, List.length_replicate]; omega))
local macro_rules | `(tactic| walk_at "side") => `(tactic| first | assumption | exact Nat.zero_le _ | decide | omega)
local macro_rules | `(tactic| walk_at "rd1") => `(tactic| first
  | with_reducible refine s_seq ?_
  | with_reducible refine x_gsub ?_
  | with_reducible refine s_asg ?_
  | ((with_reducible refine s_gn ?_); dsimp only [List.set])
  | ((with_reducible refine x_var (v := ?rdv) ?rdhv ?_); (case rdhv => rfl))
  | with_reducible refine x_c ?_
  | with_reducible refine x_op ?_
  | with_reducible refine x_cons ?_
  | with_reducible refine x_nil ?_
  | with_reducible refine x_cb ?_
  | with_reducible refine x_call ?_
  | with_reducible refine x_callS ?_
  | with_reducible refine x_revT ?_
  | with_reducible refine x_dget ?_
  | with_reducible refine x_makeS ?_
  | with_reducible refine x_make ?_
  | with_reducible refine x_makeKS ?_
  | with_reducible refine x_methS ?_
  | with_reducible refine x_meth ?_
  | with_reducible refine x_methK ?_
  | with_reducible refine x_fld ?_
  | with_reducible refine s_fld ?_
  | with_reducible refine f_rt ?_
  | with_reducible refine f_zm ?_
  | with_reducible refine c_zm ?_
  | with_reducible refine x_din ?_
  | with_reducible refine x_dnotin ?_
  | with_reducible refine s_dput ?_
  | with_reducible refine x_dnew ?_
  | with_reducible refine s_try ?_
  | with_reducible refine s_raise ?_
  | with_reducible refine s_if ?_
  | with_reducible refine s_ret ?_
  | with_reducible refine s_retN ?_
  | with_reducible refine s_next ?_
  | with_reducible refine s_brk ?_
  | with_reducible refine s_cont ?_
  | with_reducible refine s_drop ?_
  | with_reducible refine s_par ?_
  | with_reducible refine s_par3 ?_
  | ((with_reducible refine s_p2 ?_); dsimp only [List.set])
  | ((with_reducible refine s_p3 ?_); dsimp only [List.set])
  | with_reducible refine f_r1 ?_
  | with_reducible refine f_r2 ?_
  | with_reducible refine f_l ?_
  | with_reducible refine f_t ?_
  | with_reducible refine f_s ?_
  | with_reducible refine c_r1 ?_
  | with_reducible refine c_r2 ?_
  | with_reducible refine c_l ?_
  | with_reducible refine c_t ?_
  | with_reducible refine c_s ?_
  | with_reducible refine x_tst ?_
  | with_reducible refine x_tru ?_
  | with_reducible refine x_truB ?_
  | with_reducible refine x_bl2 ?_
  | with_reducible refine x_int ?_
  | with_reducible refine x_str ?_
  | with_reducible refine x_not ?_
  | with_reducible refine x_and ?_
  | with_reducible refine x_or ?_
  | with_reducible refine x_andV ?_
  | with_reducible refine x_orV ?_
  | with_reducible refine x_notV ?_
  | with_reducible refine x_if ?_
  | with_reducible refine x_yes ?_
  | with_reducible refine x_un ?_
  | with_reducible refine x_tup ?_
  | with_reducible refine x_lst ?_
  | with_reducible refine x_callK ?_
  | with_reducible refine x_callK0 ?_
  | with_reducible refine x_bm ?_
  | with_reducible refine x_bm0 ?_
  | with_reducible refine x_tyS ?_
  | with_reducible refine x_sl ?_
  | with_reducible refine x_nopart ?_
  | with_reducible refine x_part ?_
  | with_reducible refine x_fmt0 ?_
  | with_reducible refine x_gc ?_
  | with_reducible refine x_gz ?_
  | with_reducible refine x_ckw ?_
  | with_reducible refine x_fmt ?_
  | with_reducible refine x_chain ?_
  | with_reducible refine a_ii ?_
  | ((with_reducible refine sl_to ?rda ?rdb ?_); (case rda => walk_at "len"); (case rdb => walk_at "len"))
  | ((with_reducible refine sl_from ?rda ?rdb ?_); (case rda => walk_at "len"); (case rdb => walk_at "len"))
  | ((with_reducible refine sl_mid ?rda ?rdb ?rdc ?_); (case rda => walk_at "len"); (case rdb => walk_at "len"); (case rdc => walk_at "len"))
  | ((with_reducible refine a_SS ?rda ?_); (case rda => walk_at "len"))
  | ((with_reducible refine ln_S ?rda ?_); (case rda => walk_at "len"))
  | with_reducible refine e_SS ?_
  | with_reducible refine ne_SS ?_
  | with_reducible refine s_ii ?_
  | ((with_reducible refine md_ii ?rdc ?_); (case rdc => first | decide | assumption | omega))
  | with_reducible refine n_i ?_
  | with_reducible refine e_ii ?_
  | with_reducible refine e_bb ?_
  | with_reducible refine ne_ii ?_
  | with_reducible refine ne_bb ?_
  | with_reducible refine lt_ii ?_
  | with_reducible refine lt_ss ?_
  | with_reducible refine le_ii ?_
  | with_reducible refine le_ss ?_
  | with_reducible refine gt_ii ?_
  | with_reducible refine gt_ss ?_
  | with_reducible refine ge_ii ?_
  | with_reducible refine e_ss ?_
  | with_reducible refine ne_ss ?_
  | with_reducible refine is_N ?_
  | with_reducible refine is_T ?_
  | with_reducible refine is_B ?_
  | with_reducible refine isn_N ?_
  | with_reducible refine isn_T ?_
  | with_reducible refine isn_B ?_
  | with_reducible refine in_s ?_
  | with_reducible refine nin_s ?_
  | with_reducible refine i_i ?_
  | with_reducible refine i_b ?_
  | with_reducible refine ab_i ?_
  | with_reducible refine mx_ii ?_
  | with_reducible refine mn_ii ?_
  | with_reducible refine ty_N ?_
  | with_reducible refine ty_B ?_
  | with_reducible refine ty_I ?_
  | with_reducible refine ty_S ?_
  | with_reducible refine ma_s ?_
  | with_reducible refine mp_s ?_
  | with_reducible refine mdg_s ?_
  | with_reducible refine mal_s ?_
  | with_reducible refine mlo_s ?_
  | with_reducible refine c_er ?_
  | with_reducible refine c_es ?_
  | with_reducible refine mf_s ?_
  | with_reducible refine iteT ?_
  | with_reducible refine iteF ?_
  | with_reducible refine iteNt ?_
  | with_reducible refine iteNf ?_
  | with_reducible refine iteTd (by decide) ?_
  | with_reducible refine iteFd (by decide) ?_
  | with_reducible refine iteNd (by decide) ?_
  | with_reducible refine iteNdF (by decide) ?_
  | ((with_reducible refine iteFd ?rdn ?_); (case rdn => (intro rdz; cases rdz; done)))
  | ((with_reducible refine iteNdF ?rdn ?_); (case rdn => (intro rdz; cases rdz; done))))
local macro_rules | `(tactic| walk_at "rd") => `(tactic| (repeat walk_at "rd1"))
section
variable {P : Program} {w : World} {K : PySem.W.Frag} {mg : Str → Option Value} {base : Heap}
def isTxD : PyData → Bool
  | .str z => isT z.cps.toList
  | _ => false
def sp_is_text (K : PySem.W.Frag) : Sp := fun vs H Q _ => ∃ (x : V) (d : PyData), vs = [x] ∧ Dp K H x d ∧ Q (.bl (isTxD d)) H
theorem ok_is_text (Y : Fx K mg) : FnOk P w K mg base CX0 1 Y.a_is_text Y.fd_is_text ["value"] (sp_is_text K) := by
  refine Y.F_is_text.ok sc_is_text (fun vs H Q E h => ?_) (fun cdv A outer s H vs Q E hr h => ?_)
  · obtain ⟨x, d, rfl, _⟩ := h
    rfl
  · obtain ⟨x, d, rfl, hx, q⟩ := h
    refine ⟨_, b_is_text Y hr, ?_⟩
    show t_is_text K _ [some x] H
    unfold t_is_text
    walk_at "rd"
    refine ty_D hx ?_
    cases hx with
    | str z =>
      obtain ⟨l, rfl⟩ : ∃ l, z = S l := ⟨_, S_eta z⟩
      have q' : Q (.bl (isT l)) H := q
      walk_at "rd"
      refine iteTd rfl ?_
      walk_at "rd"
      rw [← is_text_eq l] at q'
      refine ite2' (fun e => ?_) (fun e => ?_)
      · walk_at "rd"
        rw [e] at q'
        exact q'
      · rw [e] at q'
        exact q'
    | non =>
      walk_at "rd"
      exact q
    | bl b =>
      walk_at "rd"
      refine iteFd (show ¬ (("bool" : String) = "str") by decide) ?_
      exact q
    | int i =>
      walk_at "rd"
      refine iteFd (show ¬ (("int" : String) = "str") by decide) ?_
      exact q
    | lst h _ =>
      walk_at "rd"
      refine iteFd (show ¬ (("list" : String) = "str") by decide) ?_
      exact q
    | tup h _ =>
      walk_at "rd"
      refine iteFd (show ¬ (("tuple" : String) = "str") by decide) ?_
      exact q
abbrev Ch := List Nat × Option (List Nat)
def vlD : Option (List Nat) → PyData
  | none => .none
  | some v => .str (S v)
def vlV : Option (List Nat) → V
  | none => .non
  | some v => .str (S v)
theorem dp_vl (H : Hp) (o : Option (List Nat)) : Dp K H (vlV o) (vlD o) := by
  cases o with
  | none => exact .non
  | some v => exact .str _
def chD (c : Ch) : PyData := .tuple [.str (S c.1), vlD c.2]
def chsD (cs : List Ch) : PyData := .tuple (cs.map chD)
def isNumD (lo hi : Int) : PyData → Bool
  | .int i => decide (lo ≤ i) && decide (i ≤ hi)
  | _ => false
def sp_is_number (K : PySem.W.Frag) : Sp := fun vs H Q _ => ∃ (x : V) (d : PyData) (lo hi : Int), vs = [x, .int lo, .int hi] ∧ Dp K H x d ∧ Q (.bl (isNumD lo hi d)) H
theorem ok_is_number (Y : Fx K mg) : FnOk P w K mg base CX0 1 Y.a_is_number Y.fd_is_number ["value", "low", "high"] (sp_is_number K) := by
  refine Y.F_is_number.ok sc_is_number (fun vs H Q E h => ?_) (fun cdv A outer s H vs Q E hr h => ?_)
  · obtain ⟨x, d, lo, hi, rfl, _⟩ := h
    rfl
  · obtain ⟨x, d, lo, hi, rfl, hx, q⟩ := h
    refine ⟨_, b_is_number Y hr, ?_⟩
    show t_is_number K _ [some x, some (.int lo), some (.int hi)] H
    unfold t_is_number
    walk_at "rd"
    refine ty_D hx ?_
    cases hx with
    | int i =>
      have q' : Q (.bl (decide (lo ≤ i) && decide (i ≤ hi))) H := q
      walk_at "rd"
      refine iteTd rfl ?_
      walk_at "rd"
      refine ite2' (fun e => ?_) (fun e => ?_)
      · rw [e, Bool.true_and] at q'
        walk_at "rd"
        exact q'
      · rw [e, Bool.false_and] at q'
        exact q'
    | non =>
      walk_at "rd"
      exact q
    | bl b =>
      walk_at "rd"
      refine iteFd (show ¬ (("bool" : String) = "int") by decide) ?_
      exact q
    | str z =>
      walk_at "rd"
      refine iteFd (show ¬ (("str" : String) = "int") by decide) ?_
      exact q
    | lst h _ =>
      walk_at "rd"
      refine iteFd (show ¬ (("list" : String) = "int") by decide) ?_
      exact q
    | tup h _ =>
      walk_at "rd"
      refine iteFd (show ¬ (("tuple" : String) = "int") by decide) ?_
      exact q
def ShT (c : Ch) : Prop := isT c.1 = true ∧ ∀ v, c.2 = some v → isT v = true
theorem at_last {α : Type} {xs : List α} {n : Nat} {v : α} (hl : xs.length = n + 1) (h : xs[n]? = some v) : atI xs (-1) = some v := by
  unfold atI ixN
  rw [hl, if_neg (by decide), if_pos (by omega)]
  show xs[((-1 : Int) + ((n + 1 : Nat) : Int)).toNat]? = some v
  rw [show ((-1 : Int) + ((n + 1 : Nat) : Int)).toNat = n by omega]
  exact h
def Fr (L : List Addr) (H H' : Hp) : Prop := ∀ a o, a ∉ L → H a = some o → H' a = some o
theorem Fr.refl {L : List Addr} (H : Hp) : Fr L H H := fun _ _ _ h => h
theorem Fr.trans {L : List Addr} {H1 H2 H3 : Hp} (a : Fr L H1 H2) (b : Fr L H2 H3) : Fr L H1 H3 := fun x o h e => b x o h (a x o h e)
theorem Fr.of {L : List Addr} {H H' : Hp} (e : Same H H') : Fr L H H' := fun a o _ h => e a o h
theorem Fr.mono {L M : List Addr} {H H' : Hp} (a : Fr L H H') (h : ∀ x ∈ L, x ∈ M) : Fr M H H' := fun x o hx e => a x o (fun z => hx (h x z)) e
theorem Fr.new {L : List Addr} {H H' : Hp} {p : Addr} {o : HO} (a : Fr L H H') (h : H' p = none) : Fr L H (upd H' p o) := fun x u hx e => same_upd h x u (a x u hx e)
theorem Fr.upd {L : List Addr} {H H' : Hp} {p : Addr} {o : HO} (a : Fr L H H') (h : p ∈ L) : Fr L H (upd H' p o) := fun x u hx e => by
  rw [upd_ne (fun z => hx (by rw [z]; exact h))]
  exact a x u hx e
theorem Fr.mut {L : List Addr} {H H' : Hp} {p : Addr} {o : HO} (a : Fr L H H') (h : H p = none) : Fr L H (L2.upd H' p o) := fun x u hx e => by
  rw [upd_ne (fun z => by rw [z, h] at e; cases e)]
  exact a x u hx e
/-- data of tuples stays where what changes is no tuple -/
theorem fr_dp {L : List Addr} {H H' : Hp} (hF : Fr L H H') (hL : ∀ x ∈ L, ∀ o, H x = some o → NoT o) {d : PyData} {v : V} (ht : tupD d = true) (h : Dp K H v d) : Dp K H' v d := ms_un (L := L) (dp_mono (ms_mono hF) _ _ (ms_dp hL d v ht h))
end
end My

set_option Elab.async false
set_option linter.all false
set_option maxRecDepth 100000
set_option maxHeartbeats 1000000
namespace My
open PySem PySem.Spec PyProof.Rows L2
local macro_rules | `(tactic| walk_at "len") => `(tactic| first | assumption | omega | decide | (simp only [List.length_append, List.length_take, List.length_drop, List.length_cons, List.length_nil, List.length_replicate]; omega))
local macro_rules | `(tactic| walk_at "side") => `(tactic| first | assumption | exact Nat.zero_le _ | decide | omega)
local macro_rules | `(tactic| walk_at "rd1") => `(tactic| first
  | with_reducible refine s_seq ?_
  | with_reducible refine x_gsub ?_
  | with_reducible refine s_asg ?_
  | ((with_reducible refine s_gn ?_); dsimp only [List.set])
  | ((with_reducible refine x_var (v := ?rdv) ?rdhv ?_); (case rdhv => rfl))
  | with_reducible refine x_c ?_
  | with_reducible refine x_op ?_
  | with_reducible refine x_cons ?_
  | with_reducible refine x_nil ?_
  | with_reducible refine x_cb ?_
  | with_reducible refine x_call ?_
  | with_reducible refine x_callS ?_
  | with_reducible refine x_revT ?_
  | with_reducible refine x_dget ?_
  | with_reducible refine x_makeS ?_
  | with_reducible refine x_make ?_
  | with_reducible refine x_makeKS ?_
  | with_reducible refine x_methS ?_
  | with_reducible refine x_meth ?_
  | with_reducible refine x_methK ?_
  | with_reducible refine x_fld ?_
  | with_reducible refine s_fld ?_
  | with_reducible refine f_rt ?_
  | with_reducible refine f_zm ?_
  | with_reducible refine c_zm ?_
  | with_reducible refine x_din ?_
  | with_reducible refine x_dnotin ?_
  | with_reducible refine s_dput ?_
  | with_reducible refine x_dnew ?_
  | with_reducible refine s_try ?_
  | with_reducible refine s_raise ?_
  | with_reducible refine s_if ?_
  | with_reducible refine s_ret ?_
  | with_reducible refine s_retN ?_
  | with_reducible refine s_next ?_
  | with_reducible refine s_brk ?_
  | with_reducible refine s_cont ?_
  | with_reducible refine s_drop ?_
  | with_reducible refine s_par ?_
  | with_reducible refine s_par3 ?_
  | ((with_reducible refine s_p2 ?_); dsimp only [List.set])
  | ((with_reducible refine s_p3 ?_); dsimp only [List.set])
  | with_reducible refine f_r1 ?_
  | with_reducible refine f_r2 ?_
  | with_reducible refine f_l ?_
  | with_reducible refine f_t ?_
  | with_reducible refine f_s ?_
  | with_reducible refine c_r1 ?_
  | with_reducible refine c_r2 ?_
  | with_reducible refine c_l ?_
  | with_reducible refine c_t ?_
  | with_reducible refine c_s ?_
  | with_reducible refine x_tst ?_
  | with_reducible refine x_tru ?_
  | with_reducible refine x_truB ?_
  | with_reducible refine x_bl2 ?_
  | with_reducible refine x_int ?_
  | with_reducible refine x_str ?_
  | with_reducible refine x_not ?_
  | with_reducible refine x_and ?_
  | with_reducible refine x_or ?_
  | with_reducible refine x_andV ?_
  | with_reducible refine x_orV ?_
  | with_reducible refine x_notV ?_
  | with_reducible refine x_if ?_
  | with_reducible refine x_yes ?_
  | with_reducible refine x_un ?_
  | with_reducible refine x_tup ?_
  | with_reducible refine x_lst ?_
  | with_reducible refine x_callK ?_
  | with_reducible refine x_callK0 ?_
  | with_reducible refine x_bm ?_
  | with_reducible refine x_bm0 ?_
  | with_reducible refine x_tyS ?_
  | with_reducible refine x_sl ?_
  | with_reducible refine x_nopart ?_
  | with_reducible refine x_part ?_
  | with_reducible refine x_fmt0 ?_
  | with_reducible refine x_gc ?_
  | with_reducible refine x_gz ?_
  | with_reducible refine x_ckw ?_
  | with_reducible refine x_fmt ?_
  | with_reducible refine x_chain ?_
  | with_reducible refine a_ii ?_
  | ((with_reducible refine sl_to ?rda ?rdb ?_); (case rda => walk_at "len"); (case rdb => walk_at "len"))
  | ((with_reducible refine sl_from ?rda ?rdb ?_); (case rda => walk_at "len"); (case rdb => walk_at "len"))
  | ((with_reducible refine sl_mid ?rda ?rdb ?rdc ?_); (case rda => walk_at "len"); (case rdb => walk_at "len"); (case rdc => walk_at "len"))
  | ((with_reducible refine a_SS ?rda ?_); (case rda => walk_at "len"))
  | ((with_reducible refine ln_S ?rda ?_); (case rda => walk_at "len"))
  | with_reducible refine e_SS ?_
  | with_reducible refine ne_SS ?_
  | with_reducible refine s_ii ?_
  | ((with_reducible refine md_ii ?rdc ?_); (case rdc => first | decide | assumption | omega))
  | with_reducible refine n_i ?_
  | with_reducible refine e_ii ?_
  | with_reducible refine e_bb ?_
  | with_reducible refine ne_ii ?_
  | with_reducible refine ne_bb ?_
  | with_reducible refine lt_ii ?_
  | with_reducible refine lt_ss ?_
  | with_reducible refine le_ii ?_
  | with_reducible refine le_ss ?_
  | with_reducible refine gt_ii ?_
  | with_reducible refine gt_ss ?_
  | with_reducible refine ge_ii ?_
  | with_reducible refine e_ss ?_
  | with_reducible refine ne_ss ?_
  | with_reducible refine is_N ?_
  | with_reducible refine is_T ?_
  | with_reducible refine is_B ?_
  | with_reducible refine isn_N ?_
  | with_reducible refine isn_T ?_
  | with_reducible refine isn_B ?_
  | with_reducible refine in_s ?_
  | with_reducible refine nin_s ?_
  | with_reducible refine i_i ?_
  | with_reducible refine i_b ?_
  | with_reducible refine ab_i ?_
  | with_reducible refine mx_ii ?_
  | with_reducible refine mn_ii ?_
  | with_reducible refine ty_N ?_
  | with_reducible refine ty_B ?_
  | with_reducible refine ty_I ?_
  | with_reducible refine ty_S ?_
  | with_reducible refine ma_s ?_
  | with_reducible refine mp_s ?_
  | with_reducible refine mdg_s ?_
  | with_reducible refine mal_s ?_
  | with_reducible refine mlo_s ?_
  | with_reducible refine c_er ?_
  | with_reducible refine c_es ?_
  | with_reducible refine mf_s ?_
  | with_reducible refine iteT ?_
  | with_reducible refine iteF ?_
  | with_reducible refine iteNt ?_
  | with_reducible refine iteNf ?_
  | with_reducible refine iteTd (by decide) ?_
  | with_reducible refine iteFd (by decide) ?_
  | with_reducible refine iteNd (by decide) ?_
  | with_reducible refine iteNdF (by decide) ?_
  | ((with_reducible refine iteFd ?rdn ?_); (case rdn => (intro rdz; cases rdz; done)))
  | ((with_reducible refine iteNdF ?rdn ?_); (case rdn => (intro rdz; cases rdz; done))))
local macro_rules | `(tactic| walk_at "rd") => `(tactic| (repeat walk_at "rd1"))
section
variable {P : Program} {w : World} {K : PySem.W.Frag} {mg : Str → Option Value} {base : Heap}
/-! whether data is changes -/
def isChgD : PyData → Bool
  | .tuple [a, b] => isTxD a && (isNo b || isTxD b)
  | _ => false
def keyD : PyData → List Nat
  | .tuple (.str z :: _) => z.cps.toList
  | _ => []
def zipLt (ks : List (List Nat)) : List Bool := List.zipWith (fun a b => decide (a < b)) ks (ks.drop 1)
def ascL (ks : List (List Nat)) : Bool := (zipLt ks).all id
def isChsD : PyData → Bool
  | .tuple ds => ds.all isChgD && ascL (ds.map keyD)
  | _ => false
theorem zip_len (ks : List (List Nat)) : (zipLt ks).length = ks.length - 1 := by
  unfold zipLt
  rw [List.length_zipWith, List.length_drop]
  omega
theorem zip_at {ks : List (List Nat)} {i : Nat} {a b : List Nat} (h1 : ks[i]? = some a) (h2 : ks[i + 1]? = some b) : (zipLt ks)[i]? = some (decide (a < b)) := by
  unfold zipLt
  rw [List.getElem?_zipWith, h1, List.getElem?_drop, Nat.add_comm 1 i, h2]
def sp_is_change (K : PySem.W.Frag) : Sp := fun vs H Q _ => ∃ (x : V) (d : PyData), vs = [x] ∧ Dp K H x d ∧ Q (.bl (isChgD d)) H
theorem chg_len {ds : List PyData} (h : ds.length ≠ 2) : isChgD (.tuple ds) = false := by
  rcases ds with _ | ⟨a, _ | ⟨b, _ | ⟨c, r⟩⟩⟩ <;> first | rfl | exact absurd rfl h
theorem ok_is_change (Y : Fx K mg) : FnOk P w K mg base CX0 2 Y.a_is_change Y.fd_is_change ["value"] (sp_is_change K) := by
  refine Y.F_is_change.ok sc_is_change (fun vs H Q E h => ?_) (fun cdv A outer s H vs Q E hr h => ?_)
  · obtain ⟨x, d, rfl, _⟩ := h
    rfl
  · obtain ⟨x, d, rfl, hx, q⟩ := h
    refine ⟨_, b_is_change Y (ok_is_text Y) hr, ?_⟩
    show t_is_change K _ _ [some x] H
    unfold t_is_change
    walk_at "rd"
    refine ty_D hx ?_
    cases hx with
    | @tup a us ds hs ha =>
      have hlen := dpAll_len ha
      walk_at "rd"
      refine iteNd rfl ?_
      walk_at "rd"
      refine ln_t hs ?_
      walk_at "rd"
      rw [hlen]
      by_cases h2 : ds.length = 2
      · obtain ⟨a, b, rfl⟩ : ∃ a b, ds = [a, b] := by
          rcases ds with _ | ⟨a, _ | ⟨b, _ | ⟨c, r⟩⟩⟩
          · cases h2
          · cases h2
          · exact ⟨a, b, rfl⟩
          · simp at h2
        cases ha with
        | cons h1 ha =>
          cases ha with
          | cons h3 ha =>
            cases ha
            rename_i u v
            have q' : Q (.bl (isTxD a && (isNo b || isTxD b))) H := q
            refine iteNd rfl ?_
            walk_at "rd"
            refine ix_T hs (by rfl) ?_
            walk_at "rd"
            refine ⟨u, a, rfl, h1, ?_⟩
            walk_at "rd"
            refine ite2' (fun e => ?_) (fun e => ?_)
            · rw [e, Bool.true_and] at q'
              walk_at "rd"
              refine ix_T hs (by rfl) ?_
              walk_at "rd"
              rw [non_d h3]
              refine ite2' (fun e2 => ?_) (fun e2 => ?_)
              · rw [e2] at q'
                exact q'
              · rw [e2, Bool.false_or] at q'
                walk_at "rd"
                refine ix_T hs (by rfl) ?_
                walk_at "rd"
                exact ⟨v, b, rfl, h3, q'⟩
            · rw [e, Bool.false_and] at q'
              exact q'
      · refine iteNdF (by omega) ?_
        walk_at "rd"
        rw [chg_len h2] at q
        exact q
    | non =>
      walk_at "rd"
      exact q
    | bl b =>
      walk_at "rd"
      refine iteNdF (show ¬ (("bool" : String) = "tuple") by decide) ?_
      walk_at "rd"
      exact q
    | int i =>
      walk_at "rd"
      refine iteNdF (show ¬ (("int" : String) = "tuple") by decide) ?_
      walk_at "rd"
      exact q
    | str z =>
      walk_at "rd"
      refine iteNdF (show ¬ (("str" : String) = "tuple") by decide) ?_
      walk_at "rd"
      exact q
    | lst h _ =>
      walk_at "rd"
      refine iteNdF (show ¬ (("list" : String) = "tuple") by decide) ?_
      walk_at "rd"
      exact q
theorem lcZ_mk {H : Hp} {Q : VK} {σ : L2.St} {g : TG} {t : TT} {te : TE} {ws : List Nat} {a b : Addr} {xs ys : List V} (hx : SqL K H a xs) (hy : SqL K H b ys) (Pv : Addr → Nat → Hp → Prop) (n : Nat) (hn : n = min xs.length ys.length)
    (h0 : ∀ D, H D = none → Pv D 0 (upd H D (.lst []))) (hl : ∀ D i H', H D = none → Pv D i H' → SqL K H' a xs ∧ SqL K H' b ys)
    (hs : ∀ D i x y T H', H D = none → xs[i]? = some x → ys[i]? = some y → Pv D i H' → H' T = none → g (.ref T) (wipe σ ws) (upd H' T (.tup [x, y])) fun σ2 H2 => wipe σ2 ws = wipe σ ws ∧ t σ2 H2 fun b H3 => if b = true then te σ2 H3 fun y H4 => ∃ acc, H4 D = some (.lst acc) ∧ acc.length < sizeLine ∧ Pv D (i + 1) (upd H4 D (.lst (acc ++ [y]))) else Pv D (i + 1) H3)
    (hd : ∀ D H', H D = none → Pv D n H' → Q (.ref D) H') : ∃ a' b' xs ys, [V.ref a, .ref b] = [.ref a', .ref b'] ∧ SqL K H a' xs ∧ SqL K H b' ys ∧ LcW (Itz K a' b') g t te ws σ Q H := by
  refine ⟨a, b, xs, ys, rfl, hx, hy, fun D hD => ⟨fun i m H' => m = n - i ∧ i ≤ n ∧ Pv D i H', ⟨n, by simp, Nat.zero_le _, h0 D hD⟩, ?_⟩⟩
  rintro i m H' ⟨rfl, hi, p⟩
  obtain ⟨sx, sy⟩ := hl D i H' hD p
  by_cases hlt : i < n
  · refine .inr ⟨⟨xs, ys, _, _, sx, sy, List.getElem?_eq_getElem (by omega), List.getElem?_eq_getElem (by omega)⟩, Pv D (i + 1), fun H2 p' => ⟨n - (i + 1), by omega, rfl, hlt, p'⟩, fun x H2 y => ?_⟩
    obtain ⟨T, x', y', rfl, hT, rfl, e1, e2⟩ := y
    exact hs D i x' y' T H' hD (e1 _ sx) (e2 _ sy) p hT
  · have e : i = n := by omega
    subst e
    exact .inl ⟨⟨xs, ys, sx, sy, by omega⟩, hd D H' hD p⟩
theorem c_z {σ : L2.St} {H : Hp} {Q : VK} {tr : TA} {g : TG} {t : TT} {te : TE} {ws : List Nat} (h : tr σ H fun vs H1 => ∃ a b xs ys, vs = [.ref a, .ref b] ∧ SqL K H1 a xs ∧ SqL K H1 b ys ∧ LcW (Itz K a b) g t te ws σ Q H1) : tLc (iZip K tr) g t te ws σ H Q := h
def sp_is_changes (K : PySem.W.Frag) : Sp := fun vs H Q _ => ∃ (x : V) (d : PyData), vs = [x] ∧ Dp K H x d ∧ (∀ ds, d = .tuple ds → ds.length ≤ 300000) ∧ ∀ H', Same H H' → Q (.bl (isChsD d)) H'
theorem bv_snoc {α : Type} {ds : List α} {f : α → Bool} {i : Nat} {d : α} (h : ds[i]? = some d) : ((ds.take (i + 1)).map fun d => V.bl (f d)) = ((ds.take i).map fun d => V.bl (f d)) ++ [V.bl (f d)] := by
  rw [take_snoc h, List.map_append]
  rfl
theorem ok_is_changes (Y : Fx K mg) : FnOk P w K mg base CX0 3 Y.a_is_changes Y.fd_is_changes ["value"] (sp_is_changes K) := by
  refine Y.F_is_changes.ok sc_is_changes (fun vs H Q E h => ?_) (fun cdv A outer s H vs Q E hr h => ?_)
  · obtain ⟨x, d, rfl, _⟩ := h
    rfl
  · obtain ⟨x, d, rfl, hx, hz, q⟩ := h
    refine ⟨_, b_is_changes Y (ok_is_change Y) hr, ?_⟩
    show t_is_changes K _ _ [some x, none, none, none, none, none, none] H
    unfold t_is_changes
    walk_at "rd"
    refine ty_D hx ?_
    cases hx with
    | @tup p us ds hs ha =>
      have hlen := dpAll_len ha
      have hds := hz ds rfl
      have q' : ∀ H', Same H H' → Q (.bl (ds.all isChgD && ascL (ds.map keyD))) H' := q
      walk_at "rd"
      refine iteNd rfl ?_
      walk_at "rd"
      refine lcT_mk hs (fun D i H' => Same H H' ∧ H' D = some (.lst ((ds.take i).map fun d => V.bl (isChgD d)))) (fun D hD => ⟨same_upd hD, upd_same⟩) (fun D i H' hD _ hP => same_sqt hP.1 hs) (fun D i x H' hD hxi hP => ?_) (fun D H' hD hP => ?_)
      · obtain ⟨hS, hH⟩ := hP
        have hi : i < ds.length := by rw [← hlen]; exact (List.getElem?_eq_some_iff.mp hxi).1
        obtain ⟨v, hv, hd⟩ := dpAll_get ha hi
        rw [hxi] at hv
        cases hv
        refine ⟨rfl, ?_⟩
        walk_at "rd"
        refine ⟨x, ds[i], rfl, dp_mono hS _ _ hd, ?_⟩
        refine ⟨_, hH, Nat.lt_of_le_of_lt (show _ ≤ 300000 by rw [List.length_map, List.length_take]; omega) (by decide), same_mut hS hD, ?_⟩
        rw [upd_same, bv_snoc (List.getElem?_eq_getElem hi)]
      · obtain ⟨hS, hH⟩ := hP
        rw [hlen, List.take_of_length_le (Nat.le_refl _), show (ds.map fun d => V.bl (isChgD d)) = (ds.map isChgD).map V.bl by rw [List.map_map]; rfl] at hH
        walk_at "rd"
        refine al_b (lst_of hH) ?_
        have ea : (ds.map isChgD).all id = ds.all isChgD := by rw [List.all_map]; rfl
        rw [ea]
        walk_at "rd"
        cases hall : ds.all isChgD with
        | false =>
          rw [hall, Bool.false_and] at q'
          walk_at "rd"
          exact q' _ hS
        | true =>
          rw [hall, Bool.true_and] at q'
          refine iteNt ?_
          walk_at "rd"
          refine lcT_mk (same_sqt hS hs) (fun D2 i H2 => Same H' H2 ∧ H2 D2 = some (.lst (tv ((ds.take i).map keyD)))) (fun D2 hD2 => ⟨same_upd hD2, upd_same⟩) (fun D2 i H2 hD2 _ hP => same_sqt (hS.trans hP.1) hs) (fun D2 i x H2 hD2 hxi hP => ?_) (fun D2 H2 hD2 hP => ?_)
          · obtain ⟨hS2, hH2⟩ := hP
            have hi : i < ds.length := by rw [← hlen]; exact (List.getElem?_eq_some_iff.mp hxi).1
            obtain ⟨v, hv, hd⟩ := dpAll_get ha hi
            rw [hxi] at hv
            cases hv
            have hci : isChgD ds[i] = true := List.all_eq_true.mp hall _ (List.getElem_mem hi)
            have hdi := List.getElem?_eq_getElem hi
            generalize ds[i] = dd at hci hd hdi
            obtain ⟨z, b, rfl⟩ : ∃ z b, dd = .tuple [.str z, b] := by
              cases dd with
              | tuple es =>
                rcases es with _ | ⟨a, _ | ⟨b, _ | ⟨c, r⟩⟩⟩
                · cases hci
                · cases hci
                · have hci' : (isTxD a && (isNo b || isTxD b)) = true := hci
                  rw [Bool.and_eq_true] at hci'
                  cases a with
                  | str z => exact ⟨z, b, rfl⟩
                  | _ => cases hci'.1
                · cases hci
              | _ => cases hci
            cases hd with
            | tup hs2 ha2 =>
              cases ha2 with
              | cons k1 ha2 =>
                cases ha2 with
                | cons k2 ha2 =>
                  cases ha2
                  cases k1
                  refine gt_T (same_sqt (hS.trans hS2) hs2) rfl ?_
                  refine x_gc ?_
                  refine s_gn ?_
                  refine x_gc ?_
                  refine s_gn ?_
                  refine x_gz ?_
                  refine ⟨rfl, ?_⟩
                  show tYes [_, none, none, some (.str z), some _, none, none] H2 _
                  walk_at "rd"
                  refine ⟨_, hH2, Nat.lt_of_le_of_lt (show _ ≤ 300000 by rw [tv_len, List.length_map, List.length_take]; omega) (by decide), same_mut hS2 hD2, ?_⟩
                  rw [upd_same, take_snoc hdi, List.map_append, tv_app]
                  show some (HO.lst (_ ++ [V.str z])) = some (HO.lst (_ ++ [V.str (S z.cps.toList)]))
                  rw [← S_eta z]
          · obtain ⟨hS2, hH2⟩ := hP
            rw [hlen, List.take_of_length_le (Nat.le_refl _)] at hH2
            generalize hks : ds.map keyD = ks at hH2 q'
            have hkl : ks.length ≤ 300000 := by rw [← hks, List.length_map]; exact hds
            have hS02 := hS.trans hS2
            walk_at "rd"
            refine c_z ?_
            walk_at "rd"
            refine sl_L (lst_of hH2) fun p3 hp3 => ?_
            rw [show (some (1 : Int)) = some ((1 : Nat) : Int) from rfl, cutV_from]
            have hS3 := same_upd hp3 (o := .lst ((tv ks).drop 1))
            refine x_nil ?_
            refine lcZ_mk (lst_of (hS3 _ _ hH2)) (lst_of upd_same) (fun D3 i H3 => Same (upd H2 p3 (.lst ((tv ks).drop 1))) H3 ∧ H3 D3 = some (.lst (((zipLt ks).take i).map V.bl))) (ks.length - 1) (by rw [List.length_drop, tv_len]; omega) (fun D3 hD3 => ⟨same_upd hD3, upd_same⟩) (fun D3 i H3 hD3 hP => ⟨lst_of (hP.1 _ _ (hS3 _ _ hH2)), lst_of (hP.1 _ _ upd_same)⟩) (fun D3 i x y T H3 hD3 hxi hyi hP hT => ?_) (fun D3 H3 hD3 hP => ?_)
            · obtain ⟨hS4, hH4⟩ := hP
              unfold tv at hxi hyi
              rw [List.getElem?_drop, List.getElem?_map] at hyi
              rw [List.getElem?_map] at hxi
              rw [Nat.add_comm] at hyi
              cases hk1 : ks[i]? with
              | none => rw [hk1] at hxi; cases hxi
              | some k1 =>
                cases hk2 : ks[i + 1]? with
                | none => rw [hk2] at hyi; cases hyi
                | some k2 =>
                  rw [hk1] at hxi
                  rw [hk2] at hyi
                  cases hxi
                  cases hyi
                  refine gt_T (tup_of upd_same) rfl ?_
                  refine x_gc ?_
                  refine s_gn ?_
                  refine x_gc ?_
                  refine s_gn ?_
                  refine x_gz ?_
                  refine ⟨rfl, ?_⟩
                  show tYes [_, none, _, none, none, some (.str (S k1)), some (.str (S k2))] _ _
                  walk_at "rd"
                  have hne : D3 ≠ T := fun z => by rw [← z, hH4] at hT; cases hT
                  refine ⟨_, (by rw [upd_ne hne]; exact hH4), Nat.lt_of_le_of_lt (show _ ≤ 300000 by rw [List.length_map, List.length_take, zip_len]; omega) (by decide), ?_, ?_⟩
                  · exact same_mut (same_new hS4 hT) hD3
                  · rw [upd_same, take_snoc (zip_at hk1 hk2), List.map_append]
                    rfl
            · obtain ⟨hS4, hH4⟩ := hP
              rw [← zip_len, List.take_of_length_le (Nat.le_refl _)] at hH4
              walk_at "rd"
              refine al_b (lst_of hH4) ?_
              exact q' _ ((hS02.trans hS3).trans hS4)
    | non =>
      walk_at "rd"
      exact q H (Same.refl H)
    | bl b =>
      walk_at "rd"
      refine iteNdF (show ¬ (("bool" : String) = "tuple") by decide) ?_
      walk_at "rd"
      exact q H (Same.refl H)
    | int i =>
      walk_at "rd"
      refine iteNdF (show ¬ (("int" : String) = "tuple") by decide) ?_
      walk_at "rd"
      exact q H (Same.refl H)
    | str z =>
      walk_at "rd"
      refine iteNdF (show ¬ (("str" : String) = "tuple") by decide) ?_
      walk_at "rd"
      exact q H (Same.refl H)
    | lst h _ =>
      walk_at "rd"
      refine iteNdF (show ¬ (("list" : String) = "tuple") by decide) ?_
      walk_at "rd"
      exact q H (Same.refl H)
end
end My

set_option Elab.async false
set_option linter.all false
set_option maxRecDepth 100000
set_option maxHeartbeats 1000000
namespace My
open PySem PySem.Spec PyProof.Rows L2
local macro_rules | `(tactic| walk_at "len") => `(tactic| first | assumption | omega | decide | (simp only [List.length_append, List.length_take, List.length_drop, List.length_cons, List.length_nil, List.length_replicate]; omega))
local macro_rules | `(tactic| walk_at "side") => `(tactic| first | assumption | exact Nat.zero_le _ | decide | omega)
local macro_rules | `(tactic| walk_at "rd1") => `(tactic| first
  | with_reducible refine s_seq ?_
  | with_reducible refine x_gsub ?_
  | with_reducible refine s_asg ?_
  | ((with_reducible refine s_gn ?_); dsimp only [List.set])
  | ((with_reducible refine x_var (v := ?rdv) ?rdhv ?_); (case rdhv => rfl))
  | with_reducible refine x_c ?_
  | with_reducible refine x_op ?_
  | with_reducible refine x_cons ?_
  | with_reducible refine x_nil ?_
  | with_reducible refine x_cb ?_
  | with_reducible refine x_call ?_
  | with_reducible refine x_callS ?_
  | with_reducible refine x_revT ?_
  | with_reducible refine x_dget ?_
  | with_reducible refine x_makeS ?_
  | with_reducible refine x_make ?_
  | with_reducible refine x_makeKS ?_
  | with_reducible refine x_methS ?_
  | with_reducible refine x_meth ?_
  | with_reducible refine x_methK ?_
  | with_reducible refine x_fld ?_
  | with_reducible refine s_fld ?_
  | with_reducible refine f_rt ?_
  | with_reducible refine f_zm ?_
  | with_reducible refine c_zm ?_
  | with_reducible refine x_din ?_
  | with_reducible refine x_dnotin ?_
  | with_reducible refine s_dput ?_
  | with_reducible refine x_dnew ?_
  | with_reducible refine s_try ?_
  | with_reducible refine s_raise ?_
  | with_reducible refine s_if ?_
  | with_reducible refine s_ret ?_
  | with_reducible refine s_retN ?_
  | with_reducible refine s_next ?_
  | with_reducible refine s_brk ?_
  | with_reducible refine s_cont ?_
  | with_reducible refine s_drop ?_
  | with_reducible refine s_par ?_
  | with_reducible refine s_par3 ?_
  | ((with_reducible refine s_p2 ?_); dsimp only [List.set])
  | ((with_reducible refine s_p3 ?_); dsimp only [List.set])
  | with_reducible refine f_r1 ?_
  | with_reducible refine f_r2 ?_
  | with_reducible refine f_l ?_
  | with_reducible refine f_t ?_
  | with_reducible refine f_s ?_
  | with_reducible refine c_r1 ?_
  | with_reducible refine c_r2 ?_
  | with_reducible refine c_l ?_
  | with_reducible refine c_t ?_
  | with_reducible refine c_s ?_
  | with_reducible refine x_tst ?_
  | with_reducible refine x_tru ?_
  | with_reducible refine x_truB ?_
  | with_reducible refine x_bl2 ?_
  | with_reducible refine x_int ?_
  | with_reducible refine x_str ?_
  | with_reducible refine x_not ?_
  | with_reducible refine x_and ?_
  | with_reducible refine x_or ?_
  | with_reducible refine x_andV ?_
  | with_reducible refine x_orV ?_
  | with_reducible refine x_notV ?_
  | with_reducible refine x_if ?_
  | with_reducible refine x_yes ?_
  | with_reducible refine x_un ?_
  | with_reducible refine x_tup ?_
  | with_reducible refine x_lst ?_
  | with_reducible refine x_callK ?_
  | with_reducible refine x_callK0 ?_
  | with_reducible refine x_bm ?_
  | with_reducible refine x_bm0 ?_
  | with_reducible refine x_tyS ?_
  | with_reducible refine x_sl ?_
  | with_reducible refine x_nopart ?_
  | with_reducible refine x_part ?_
  | with_reducible refine x_fmt0 ?_
  | with_reducible refine x_gc ?_
  | with_reducible refine x_gz ?_
  | with_reducible refine x_ckw ?_
  | with_reducible refine x_fmt ?_
  | with_reducible refine x_chain ?_
  | with_reducible refine a_ii ?_
  | ((with_reducible refine sl_to ?rda ?rdb ?_); (case rda => walk_at "len"); (case rdb => walk_at "len"))
  | ((with_reducible refine sl_from ?rda ?rdb ?_); (case rda => walk_at "len"); (case rdb => walk_at "len"))
  | ((with_reducible refine sl_mid ?rda ?rdb ?rdc ?_); (case rda => walk_at "len"); (case rdb => walk_at "len"); (case rdc => walk_at "len"))
  | ((with_reducible refine a_SS ?rda ?_); (case rda => walk_at "len"))
  | ((with_reducible refine ln_S ?rda ?_); (case rda => walk_at "len"))
  | with_reducible refine e_SS ?_
  | with_reducible refine ne_SS ?_
  | with_reducible refine s_ii ?_
  | ((with_reducible refine md_ii ?rdc ?_); (case rdc => first | decide | assumption | omega))
  | with_reducible refine n_i ?_
  | with_reducible refine e_ii ?_
  | with_reducible refine e_bb ?_
  | with_reducible refine ne_ii ?_
  | with_reducible refine ne_bb ?_
  | with_reducible refine lt_ii ?_
  | with_reducible refine lt_ss ?_
  | with_reducible refine le_ii ?_
  | with_reducible refine le_ss ?_
  | with_reducible refine gt_ii ?_
  | with_reducible refine gt_ss ?_
  | with_reducible refine ge_ii ?_
  | with_reducible refine e_ss ?_
  | with_reducible refine ne_ss ?_
  | with_reducible refine is_N ?_
  | with_reducible refine is_T ?_
  | with_reducible refine is_B ?_
  | with_reducible refine isn_N ?_
  | with_reducible refine isn_T ?_
  | with_reducible refine isn_B ?_
  | with_reducible refine in_s ?_
  | with_reducible refine nin_s ?_
  | with_reducible refine i_i ?_
  | with_reducible refine i_b ?_
  | with_reducible refine ab_i ?_
  | with_reducible refine mx_ii ?_
  | with_reducible refine mn_ii ?_
  | with_reducible refine ty_N ?_
  | with_reducible refine ty_B ?_
  | with_reducible refine ty_I ?_
  | with_reducible refine ty_S ?_
  | with_reducible refine ma_s ?_
  | with_reducible refine mp_s ?_
  | with_reducible refine mdg_s ?_
  | with_reducible refine mal_s ?_
  | with_reducible refine mlo_s ?_
  | with_reducible refine c_er ?_
  | with_reducible refine c_es ?_
  | with_reducible refine mf_s ?_
  | with_reducible refine iteT ?_
  | with_reducible refine iteF ?_
  | with_reducible refine iteNt ?_
  | with_reducible refine iteNf ?_
  | with_reducible refine iteTd (by decide) ?_
  | with_reducible refine iteFd (by decide) ?_
  | with_reducible refine iteNd (by decide) ?_
  | with_reducible refine iteNdF (by decide) ?_
  | ((with_reducible refine iteFd ?rdn ?_); (case rdn => (intro rdz; cases rdz; done)))
  | ((with_reducible refine iteNdF ?rdn ?_); (case rdn => (intro rdz; cases rdz; done))))
local macro_rules | `(tactic| walk_at "rd") => `(tactic| (repeat walk_at "rd1"))
section
variable {P : Program} {w : World} {K : PySem.W.Frag} {mg : Str → Option Value} {base : Heap}
theorem dp_ch {H : Hp} {x : V} {c : Ch} (h : Dp K H x (chD c)) : ∃ p, x = .ref p ∧ SqT K H p [.str (S c.1), vlV c.2] := by
  obtain ⟨p, u, v, rfl, hp, hu, hv⟩ := dp_tup2 h
  have hu' := dp_str' hu
  subst hu'
  obtain ⟨k, o⟩ := c
  cases o with
  | none =>
    cases hv
    exact ⟨p, rfl, hp⟩
  | some v' =>
    have hv' := dp_str' (z := S v') hv
    subst hv'
    exact ⟨p, rfl, hp⟩
theorem chg_of {d : PyData} (h : isChgD d = true) : ∃ c : Ch, d = chD c ∧ ShT c := by
  cases d with
  | tuple ds =>
    rcases ds with _ | ⟨a, _ | ⟨b, _ | ⟨c, r⟩⟩⟩
    · cases h
    · cases h
    · have h' : (isTxD a && (isNo b || isTxD b)) = true := h
      rw [Bool.and_eq_true, Bool.or_eq_true] at h'
      obtain ⟨ha, hb⟩ := h'
      have one : ∀ {e : PyData}, isTxD e = true → ∃ l, e = .str (S l) ∧ isT l = true := by
        intro e he
        cases e with
        | str z => exact ⟨z.cps.toList, by rw [← S_eta z], he⟩
        | _ => cases he
      obtain ⟨l, rfl, hl⟩ := one ha
      rcases hb with hb | hb
      · have : b = .none := by cases b <;> first | rfl | cases hb
        subst this
        exact ⟨(l, none), rfl, hl, fun v e => by cases e⟩
      · obtain ⟨m, rfl, hm⟩ := one hb
        exact ⟨(l, some m), rfl, hl, fun v e => by cases e; exact hm⟩
    · cases h
  | _ => cases h
theorem chs_all : ∀ {ds : List PyData}, ds.all isChgD = true → ∃ cs : List Ch, ds = cs.map chD ∧ ∀ c ∈ cs, ShT c
  | [], _ => ⟨[], rfl, fun _ h => by cases h⟩
  | d :: ds, h => by
    rw [List.all_cons, Bool.and_eq_true] at h
    obtain ⟨c, rfl, hc⟩ := chg_of h.1
    obtain ⟨cs, rfl, hcs⟩ := chs_all h.2
    exact ⟨c :: cs, rfl, fun e he => (List.mem_cons.mp he).elim (fun z => z ▸ hc) fun z => hcs e z⟩
theorem chs_of {d : PyData} (h : isChsD d = true) : ∃ cs : List Ch, d = chsD cs ∧ ∀ c ∈ cs, ShT c := by
  cases d with
  | tuple ds =>
    have h' : (ds.all isChgD && ascL (ds.map keyD)) = true := h
    rw [Bool.and_eq_true] at h'
    obtain ⟨cs, rfl, hc⟩ := chs_all h'.1
    exact ⟨cs, rfl, hc⟩
  | _ => cases h
def someB (cs : List Ch) : Bool := cs.all fun c => c.2.isSome
def valD : PyData → PyData
  | .tuple [_, v] => v
  | _ => .none
def entB : PyData → Bool
  | .tuple ds => ds.all fun e => !isNo (valD e)
  | _ => false
theorem ent_chs (cs : List Ch) : entB (chsD cs) = someB cs := by
  show (cs.map chD).all (fun e => !isNo (valD e)) = someB cs
  unfold someB
  rw [List.all_map]
  congr 1
  funext c
  obtain ⟨k, o⟩ := c
  cases o <;> rfl
def isEntD (d : PyData) : Bool := isChsD d && entB d
def sp_is_entries (K : PySem.W.Frag) : Sp := fun vs H Q _ => ∃ (x : V) (d : PyData), vs = [x] ∧ Dp K H x d ∧ (∀ ds, d = .tuple ds → ds.length ≤ 300000) ∧ ∀ H', Same H H' → Q (.bl (isEntD d)) H'
theorem vl_non (o : Option (List Nat)) : (!decide (vlV o = .non)) = o.isSome := by
  cases o with
  | none => rfl
  | some v => rfl
theorem ok_is_entries (Y : Fx K mg) : FnOk P w K mg base CX0 4 Y.a_is_entries Y.fd_is_entries ["value"] (sp_is_entries K) := by
  refine Y.F_is_entries.ok sc_is_entries (fun vs H Q E h => ?_) (fun cdv A outer s H vs Q E hr h => ?_)
  · obtain ⟨x, d, rfl, _⟩ := h
    rfl
  · obtain ⟨x, d, rfl, hx, hz, q⟩ := h
    refine ⟨_, b_is_entries Y (ok_is_changes Y) hr, ?_⟩
    show t_is_entries K _ _ [some x, none, none] H
    unfold t_is_entries
    walk_at "rd"
    refine ⟨x, d, rfl, hx, hz, fun H1 hS1 => ?_⟩
    walk_at "rd"
    refine ite2' (fun e => ?_) (fun e => ?_)
    · obtain ⟨cs, rfl, _⟩ := chs_of e
      have q' : ∀ H', Same H H' → Q (.bl (someB cs)) H' := fun H' h => by
        have := q H' h
        unfold isEntD at this
        rw [e, Bool.true_and, ent_chs] at this
        exact this
      obtain ⟨p, us, rfl, hp, ha⟩ := dp_tup' hx
      have hul := dpAll_len ha
      rw [List.length_map] at hul
      have hcl : cs.length ≤ 300000 := by have := hz _ rfl; rwa [List.length_map] at this
      walk_at "rd"
      refine lcT_mk (same_sqt hS1 hp) (fun D i H' => Same H1 H' ∧ H' D = some (.lst ((cs.take i).map fun c => V.bl c.2.isSome))) (fun D hD => ⟨same_upd hD, upd_same⟩) (fun D i H' hD _ hP => same_sqt (hS1.trans hP.1) hp) (fun D i x H' hD hxi hP => ?_) (fun D H' hD hP => ?_)
      · obtain ⟨hS, hH⟩ := hP
        obtain ⟨c, hc, hdc⟩ := all_at ha hxi
        have hi := (List.getElem?_eq_some_iff.mp hc).1
        obtain ⟨tc, rfl, htc⟩ := dp_ch hdc
        refine gt_T (same_sqt (hS1.trans hS) htc) rfl ?_
        refine x_gc ?_
        refine s_gn ?_
        refine x_gc ?_
        refine s_gn ?_
        refine x_gz ?_
        refine ⟨rfl, ?_⟩
        show tYes [some (.ref p), some (.str (S c.1)), some (vlV c.2)] H' _
        walk_at "rd"
        refine ⟨_, hH, Nat.lt_of_le_of_lt (show _ ≤ 300000 by rw [List.length_map, List.length_take]; omega) (by decide), same_mut hS hD, ?_⟩
        rw [upd_same, bv_snoc hc, vl_non]
      · obtain ⟨hS, hH⟩ := hP
        rw [hul, List.take_of_length_le (Nat.le_refl _), show (cs.map fun c => V.bl c.2.isSome) = (cs.map fun c => c.2.isSome).map V.bl by rw [List.map_map]; rfl] at hH
        walk_at "rd"
        refine al_b (lst_of hH) ?_
        have e : (cs.map fun c => c.2.isSome).all id = someB cs := by rw [List.all_map]; rfl
        rw [e]
        exact q' _ (hS1.trans hS)
    · have := q H1 hS1
      unfold isEntD at this
      rw [e, Bool.false_and] at this
      exact this
end
end My

set_option Elab.async false
set_option linter.all false
set_option maxRecDepth 100000
set_option maxHeartbeats 1000000
namespace My
open PySem PySem.Spec PyProof.Rows L2
local macro_rules | `(tactic| walk_at "len") => `(tactic| first | assumption | omega | decide | (simp only [List.length_append, List.length_take, List.length_drop, List.length_cons, List.length_nil, List.length_replicate]; omega))
local macro_rules | `(tactic| walk_at "side") => `(tactic| first | assumption | exact Nat.zero_le _ | decide | omega)
local macro_rules | `(tactic| walk_at "rd1") => `(tactic| first
  | with_reducible refine s_seq ?_
  | with_reducible refine x_gsub ?_
  | with_reducible refine s_asg ?_
  | ((with_reducible refine s_gn ?_); dsimp only [List.set])
  | ((with_reducible refine x_var (v := ?rdv) ?rdhv ?_); (case rdhv => rfl))
  | with_reducible refine x_c ?_
  | with_reducible refine x_op ?_
  | with_reducible refine x_cons ?_
  | with_reducible refine x_nil ?_
  | with_reducible refine x_cb ?_
  | with_reducible refine x_call ?_
  | with_reducible refine x_callS ?_
  | with_reducible refine x_revT ?_
  | with_reducible refine x_dget ?_
  | with_reducible refine x_makeS ?_
  | with_reducible refine x_make ?_
  | with_reducible refine x_makeKS ?_
  | with_reducible refine x_methS ?_
  | with_reducible refine x_meth ?_
  | with_reducible refine x_methK ?_
  | with_reducible refine x_fld ?_
  | with_reducible refine s_fld ?_
  | with_reducible refine f_rt ?_
  | with_reducible refine f_zm ?_
  | with_reducible refine c_zm ?_
  | with_reducible refine x_din ?_
  | with_reducible refine x_dnotin ?_
  | with_reducible refine s_dput ?_
  | with_reducible refine x_dnew ?_
  | with_reducible refine s_try ?_
  | with_reducible refine s_raise ?_
  | with_reducible refine s_if ?_
  | with_reducible refine s_ret ?_
  | with_reducible refine s_retN ?_
  | with_reducible refine s_next ?_
  | with_reducible refine s_brk ?_
  | with_reducible refine s_cont ?_
  | with_reducible refine s_drop ?_
  | with_reducible refine s_par ?_
  | with_reducible refine s_par3 ?_
  | ((with_reducible refine s_p2 ?_); dsimp only [List.set])
  | ((with_reducible refine s_p3 ?_); dsimp only [List.set])
  | with_reducible refine f_r1 ?_
  | with_reducible refine f_r2 ?_
  | with_reducible refine f_l ?_
  | with_reducible refine f_t ?_
  | with_reducible refine f_s ?_
  | with_reducible refine c_r1 ?_
  | with_reducible refine c_r2 ?_
  | with_reducible refine c_l ?_
  | with_reducible refine c_t ?_
  | with_reducible refine c_s ?_
  | with_reducible refine x_tst ?_
  | with_reducible refine x_tru ?_
  | with_reducible refine x_truB ?_
  | with_reducible refine x_bl2 ?_
  | with_reducible refine x_int ?_
  | with_reducible refine x_str ?_
  | with_reducible refine x_not ?_
  | with_reducible refine x_and ?_
  | with_reducible refine x_or ?_
  | with_reducible refine x_andV ?_
  | with_reducible refine x_orV ?_
  | with_reducible refine x_notV ?_
  | with_reducible refine x_if ?_
  | with_reducible refine x_yes ?_
  | with_reducible refine x_un ?_
  | with_reducible refine x_tup ?_
  | with_reducible refine x_lst ?_
  | with_reducible refine x_callK ?_
  | with_reducible refine x_callK0 ?_
  | with_reducible refine x_bm ?_
  | with_reducible refine x_bm0 ?_
  | with_reducible refine x_tyS ?_
  | with_reducible refine x_sl ?_
  | with_reducible refine x_nopart ?_
  | with_reducible refine x_part ?_
  | with_reducible refine x_fmt0 ?_
  | with_reducible refine x_gc ?_
  | with_reducible refine x_gz ?_
  | with_reducible refine x_ckw ?_
  | with_reducible refine x_fmt ?_
  | with_reducible refine x_chain ?_
  | with_reducible refine a_ii ?_
  | ((with_reducible refine sl_to ?rda ?rdb ?_); (case rda => walk_at "len"); (case rdb => walk_at "len"))
  | ((with_reducible refine sl_from ?rda ?rdb ?_); (case rda => walk_at "len"); (case rdb => walk_at "len"))
  | ((with_reducible refine sl_mid ?rda ?rdb ?rdc ?_); (case rda => walk_at "len"); (case rdb => walk_at "len"); (case rdc => walk_at "len"))
  | ((with_reducible refine a_SS ?rda ?_); (case rda => walk_at "len"))
  | ((with_reducible refine ln_S ?rda ?_); (case rda => walk_at "len"))
  | with_reducible refine e_SS ?_
  | with_reducible refine ne_SS ?_
  | with_reducible refine s_ii ?_
  | ((with_reducible refine md_ii ?rdc ?_); (case rdc => first | decide | assumption | omega))
  | with_reducible refine n_i ?_
  | with_reducible refine e_ii ?_
  | with_reducible refine e_bb ?_
  | with_reducible refine ne_ii ?_
  | with_reducible refine ne_bb ?_
  | with_reducible refine lt_ii ?_
  | with_reducible refine lt_ss ?_
  | with_reducible refine le_ii ?_
  | with_reducible refine le_ss ?_
  | with_reducible refine gt_ii ?_
  | with_reducible refine gt_ss ?_
  | with_reducible refine ge_ii ?_
  | with_reducible refine e_ss ?_
  | with_reducible refine ne_ss ?_
  | with_reducible refine is_N ?_
  | with_reducible refine is_T ?_
  | with_reducible refine is_B ?_
  | with_reducible refine isn_N ?_
  | with_reducible refine isn_T ?_
  | with_reducible refine isn_B ?_
  | with_reducible refine in_s ?_
  | with_reducible refine nin_s ?_
  | with_reducible refine i_i ?_
  | with_reducible refine i_b ?_
  | with_reducible refine ab_i ?_
  | with_reducible refine mx_ii ?_
  | with_reducible refine mn_ii ?_
  | with_reducible refine ty_N ?_
  | with_reducible refine ty_B ?_
  | with_reducible refine ty_I ?_
  | with_reducible refine ty_S ?_
  | with_reducible refine ma_s ?_
  | with_reducible refine mp_s ?_
  | with_reducible refine mdg_s ?_
  | with_reducible refine mal_s ?_
  | with_reducible refine mlo_s ?_
  | with_reducible refine c_er ?_
  | with_reducible refine c_es ?_
  | with_reducible refine mf_s ?_
  | with_reducible refine iteT ?_
  | with_reducible refine iteF ?_
  | with_reducible refine iteNt ?_
  | with_reducible refine iteNf ?_
  | with_reducible refine iteTd (by decide) ?_
  | with_reducible refine iteFd (by decide) ?_
  | with_reducible refine iteNd (by decide) ?_
  | with_reducible refine iteNdF (by decide) ?_
  | ((with_reducible refine iteFd ?rdn ?_); (case rdn => (intro rdz; cases rdz; done)))
  | ((with_reducible refine iteNdF ?rdn ?_); (case rdn => (intro rdz; cases rdz; done))))
local macro_rules | `(tactic| walk_at "rd") => `(tactic| (repeat walk_at "rd1"))
section
variable {P : Program} {w : World} {K : PySem.W.Frag} {mg : Str → Option Value} {base : Heap}
/-! notes, commits, histories -/
def bdD (d : PyData) : Bool := isNo d || isTxD d
def valT : List Nat := [118, 97, 108, 117, 101]
def entT : List Nat := [101, 110, 116, 114, 105, 101, 115]
def isW (l : List Nat) : PyData → Bool
  | .str z => decide (z.cps.toList = l)
  | _ => false
theorem eqv_W (d : PyData) (l : List Nat) : PyData.eqv d (.str (S l)) = isW l d := by
  cases d with
  | str z =>
    show decide (z = S l) = decide (z.cps.toList = l)
    obtain ⟨m, rfl⟩ : ∃ m, z = S m := ⟨_, S_eta z⟩
    rw [S_eq]
  | _ => rfl
def vlB : List PyData → Bool
  | [b, c] => isTxD b && bdD c
  | _ => false
def enB : List PyData → Bool
  | [b, c, e] => bdD b && (bdD c && isEntD e)
  | _ => false
def noD : PyData → Bool
  | .tuple (a :: r) => if isW valT a then vlB r else if isW entT a then enB r else false
  | _ => false
/-- data that is plain and of a size -/
def Gv (d : PyData) : Prop := ∃ k W, Gd k W d ∧ k ≤ 60 ∧ W ≤ 500000
theorem Gv.len {ds : List PyData} (h : Gv (.tuple ds)) : ds.length ≤ 250000 := by
  obtain ⟨k, W, h1, _, h3⟩ := h
  have h4 := h1.3
  rw [sh] at h4
  have := shs_len ds
  omega
theorem Gv.mem {ds : List PyData} (h : Gv (.tuple ds)) {d : PyData} (hd : d ∈ ds) : Gv d := by
  obtain ⟨k, W, h1, h2, h3⟩ := h
  cases k with
  | zero => exact absurd h1.2 (Nat.not_succ_le_zero _)
  | succ k => exact ⟨k, W, h1.un.mem d hd, by omega, h3⟩
theorem Gv.shaped {d : PyData} (h : Gv d) : SeqAt.shaped d = true := by
  obtain ⟨k, W, h1, h2, _⟩ := h
  exact h1.shaped (by omega)
theorem sh_lit (l : List Nat) (h : isT l = true) : SeqAt.shaped (.str (S l)) = true := shaped_str h
def sp_is_bound (K : PySem.W.Frag) : Sp := fun vs H Q _ => ∃ (x : V) (d : PyData), vs = [x] ∧ Dp K H x d ∧ Q (.bl (bdD d)) H
theorem ok_is_bound (Y : Fx K mg) : FnOk P w K mg base CX0 2 Y.a_is_bound Y.fd_is_bound ["value"] (sp_is_bound K) := by
  refine Y.F_is_bound.ok sc_is_bound (fun vs H Q E h => ?_) (fun cdv A outer s H vs Q E hr h => ?_)
  · obtain ⟨x, d, rfl, _⟩ := h
    rfl
  · obtain ⟨x, d, rfl, hx, q⟩ := h
    refine ⟨_, b_is_bound Y (ok_is_text Y) hr, ?_⟩
    show t_is_bound K _ _ [some x] H
    unfold t_is_bound
    walk_at "rd"
    rw [non_d hx]
    have q' : Q (.bl (isNo d || isTxD d)) H := q
    refine ite2' (fun e => ?_) (fun e => ?_)
    · rw [e] at q'
      exact q'
    · rw [e, Bool.false_or] at q'
      walk_at "rd"
      exact ⟨x, d, rfl, hx, q'⟩
def sp_is_note (K : PySem.W.Frag) : Sp := fun vs H Q _ => ∃ (x : V) (d : PyData), vs = [x] ∧ Dp K H x d ∧ Gv d ∧ ∀ H', Same H H' → Q (.bl (noD d)) H'
theorem ok_is_note (Y : Fx K mg) : FnOk P w K mg base CX0 5 Y.a_is_note Y.fd_is_note ["value"] (sp_is_note K) := by
  refine Y.F_is_note.ok sc_is_note (fun vs H Q E h => ?_) (fun cdv A outer s H vs Q E hr h => ?_)
  · obtain ⟨x, d, rfl, _⟩ := h
    rfl
  · obtain ⟨x, d, rfl, hx, hg, q⟩ := h
    refine ⟨_, b_is_note Y (ok_is_bound Y) (ok_is_entries Y) (ok_is_text Y) hr, ?_⟩
    show t_is_note K _ _ _ _ [some x] H
    unfold t_is_note
    rw [show ("value" : Str) = S valT from rfl, show ("entries" : Str) = S entT from rfl]
    walk_at "rd"
    refine ty_D hx ?_
    cases hx with
    | @tup a us ds hs ha =>
      have hlen := dpAll_len ha
      walk_at "rd"
      refine iteNd rfl ?_
      walk_at "rd"
      refine x_truT hs ?_
      cases ha with
      | nil =>
        walk_at "rd"
        exact q H (fun _ _ e => e)
      | @cons u us e0 es h0 ht =>
        have g0 := hg.mem (d := e0) List.mem_cons_self
        rw [show (!(u :: us).isEmpty) = true from rfl]
        walk_at "rd"
        refine ix_T hs (at_nat (v := u) (by decide) rfl) ?_
        walk_at "rd"
        refine e_d h0 (.str _) g0.shaped (sh_lit _ (by decide)) ?_
        rw [eqv_W]
        have hl : (u :: us).length = es.length + 1 := by rw [List.length_cons, dpAll_len ht]
        walk_at "rd"
        have q2 : ∀ H', Same H H' → Q (.bl (if isW valT e0 then vlB es else if isW entT e0 then enB es else false)) H' := q
        refine ite2' (fun e => ?_) (fun e => ?_)
        · rw [e] at q2
          walk_at "rd"
          refine ln_t hs ?_
          walk_at "rd"
          rw [hl]
          refine ite2' (fun e3 => ?_) (fun e3 => ?_)
          · have e4 := of_decide_eq_true e3
            rcases es with _ | ⟨b, _ | ⟨c, _ | ⟨z, r⟩⟩⟩
            · simp at e4
            · simp at e4
            · cases ht with
              | @cons v1 _ _ _ h1 ht =>
                cases ht with
                | @cons v2 _ _ _ h2 ht =>
                  cases ht
                  have q3 : ∀ H', Same H H' → Q (.bl (isTxD b && bdD c)) H' := q2
                  walk_at "rd"
                  refine ix_T hs (by rfl) ?_
                  walk_at "rd"
                  refine ⟨v1, b, rfl, h1, ?_⟩
                  walk_at "rd"
                  refine ite2' (fun e5 => ?_) (fun e5 => ?_)
                  · rw [e5] at q3
                    walk_at "rd"
                    refine ix_T hs (by rfl) ?_
                    walk_at "rd"
                    exact ⟨v2, c, rfl, h2, q3 H (fun _ _ e => e)⟩
                  · rw [e5] at q3
                    exact q3 H (fun _ _ e => e)
            · simp at e4; omega
          · have e4 := of_decide_eq_false e3
            have q3 := q2 H (fun _ _ e => e)
            rcases es with _ | ⟨b, _ | ⟨c, _ | ⟨z, r⟩⟩⟩
            · exact q3
            · exact q3
            · exact absurd (by simp) e4
            · exact q3
        · rw [e] at q2
          walk_at "rd"
          refine ix_T hs (at_nat (v := u) (by decide) rfl) ?_
          walk_at "rd"
          refine ne_d h0 (.str _) g0.shaped (sh_lit _ (by decide)) ?_
          rw [eqv_W]
          have q3 : ∀ H', Same H H' → Q (.bl (if isW entT e0 then enB es else false)) H' := q2
          cases e6 : isW entT e0 with
          | false =>
            rw [e6] at q3
            walk_at "rd"
            exact q3 H (fun _ _ e => e)
          | true =>
            rw [e6] at q3
            walk_at "rd"
            refine ln_t hs ?_
            walk_at "rd"
            rw [hl]
            by_cases e7 : es.length = 3
            · refine iteNd (by omega) ?_
              rcases es with _ | ⟨b, _ | ⟨c, _ | ⟨z, _ | ⟨z2, r⟩⟩⟩⟩
              · simp at e7
              · simp at e7
              · simp at e7
              · cases ht with
                | @cons v1 _ _ _ h1 ht =>
                  cases ht with
                  | @cons v2 _ _ _ h2 ht =>
                    cases ht with
                    | @cons v3 _ _ _ h3 ht =>
                      cases ht
                      have q4 : ∀ H', Same H H' → Q (.bl (bdD b && (bdD c && isEntD z))) H' := q3
                      have gz := hg.mem (d := z) (by simp)
                      walk_at "rd"
                      refine ix_T hs (by rfl) ?_
                      walk_at "rd"
                      refine ⟨v1, b, rfl, h1, ?_⟩
                      walk_at "rd"
                      refine ite2' (fun e5 => ?_) (fun e5 => ?_)
                      · rw [e5, Bool.true_and] at q4
                        walk_at "rd"
                        refine ix_T hs (by rfl) ?_
                        walk_at "rd"
                        refine ⟨v2, c, rfl, h2, ?_⟩
                        walk_at "rd"
                        refine ite2' (fun e5 => ?_) (fun e5 => ?_)
                        · rw [e5, Bool.true_and] at q4
                          walk_at "rd"
                          refine ix_T hs (by rfl) ?_
                          walk_at "rd"
                          exact ⟨v3, z, rfl, h3, fun ds e => by rw [e] at gz; have := gz.len; omega, q4⟩
                        · rw [e5] at q4
                          exact q4 H (fun _ _ e => e)
                      · rw [e5] at q4
                        exact q4 H (fun _ _ e => e)
              · simp at e7
            · refine iteNdF (by omega) ?_
              walk_at "rd"
              have q4 := q3 H (fun _ _ e => e)
              rcases es with _ | ⟨b, _ | ⟨c, _ | ⟨z, _ | ⟨z2, r⟩⟩⟩⟩
              · exact q4
              · exact q4
              · exact q4
              · exact absurd rfl e7
              · exact q4
    | non =>
      walk_at "rd"
      exact q H (fun _ _ e => e)
    | bl b =>
      walk_at "rd"
      refine iteNdF (show ¬ (("bool" : String) = "tuple") by decide) ?_
      walk_at "rd"
      exact q H (fun _ _ e => e)
    | int i =>
      walk_at "rd"
      refine iteNdF (show ¬ (("int" : String) = "tuple") by decide) ?_
      walk_at "rd"
      exact q H (fun _ _ e => e)
    | str z =>
      walk_at "rd"
      refine iteNdF (show ¬ (("str" : String) = "tuple") by decide) ?_
      walk_at "rd"
      exact q H (fun _ _ e => e)
    | lst h _ =>
      walk_at "rd"
      refine iteNdF (show ¬ (("list" : String) = "tuple") by decide) ?_
      walk_at "rd"
      exact q H (fun _ _ e => e)
end
end My

set_option Elab.async false
set_option linter.all false
set_option maxRecDepth 100000
set_option maxHeartbeats 1000000
namespace My
open PySem PySem.Spec PyProof.Rows L2
local macro_rules | `(tactic| walk_at "len") => `(tactic| first | assumption | omega | decide | (simp only [List.length_append, List.length_take, List.length_drop, List.length_cons, List.length_nil, List.length_replicate]; omega))
local macro_rules | `(tactic| walk_at "side") => `(tactic| first | assumption | exact Nat.zero_le _ | decide | omega)
local macro_rules | `(tactic| walk_at "rd1") => `(tactic| first
  | with_reducible refine s_seq ?_
  | with_reducible refine x_gsub ?_
  | with_reducible refine s_asg ?_
  | ((with_reducible refine s_gn ?_); dsimp only [List.set])
  | ((with_reducible refine x_var (v := ?rdv) ?rdhv ?_); (case rdhv => rfl))
  | with_reducible refine x_c ?_
  | with_reducible refine x_op ?_
  | with_reducible refine x_cons ?_
  | with_reducible refine x_nil ?_
  | with_reducible refine x_cb ?_
  | with_reducible refine x_call ?_
  | with_reducible refine x_callS ?_
  | with_reducible refine x_revT ?_
  | with_reducible refine x_dget ?_
  | with_reducible refine x_makeS ?_
  | with_reducible refine x_make ?_
  | with_reducible refine x_makeKS ?_
  | with_reducible refine x_methS ?_
  | with_reducible refine x_meth ?_
  | with_reducible refine x_methK ?_
  | with_reducible refine x_fld ?_
  | with_reducible refine s_fld ?_
  | with_reducible refine f_rt ?_
  | with_reducible refine f_zm ?_
  | with_reducible refine c_zm ?_
  | with_reducible refine x_din ?_
  | with_reducible refine x_dnotin ?_
  | with_reducible refine s_dput ?_
  | with_reducible refine x_dnew ?_
  | with_reducible refine s_try ?_
  | with_reducible refine s_raise ?_
  | with_reducible refine s_if ?_
  | with_reducible refine s_ret ?_
  | with_reducible refine s_retN ?_
  | with_reducible refine s_next ?_
  | with_reducible refine s_brk ?_
  | with_reducible refine s_cont ?_
  | with_reducible refine s_drop ?_
  | with_reducible refine s_par ?_
  | with_reducible refine s_par3 ?_
  | ((with_reducible refine s_p2 ?_); dsimp only [List.set])
  | ((with_reducible refine s_p3 ?_); dsimp only [List.set])
  | with_reducible refine f_r1 ?_
  | with_reducible refine f_r2 ?_
  | with_reducible refine f_l ?_
  | with_reducible refine f_t ?_
  | with_reducible refine f_s ?_
  | with_reducible refine c_r1 ?_
  | with_reducible refine c_r2 ?_
  | with_reducible refine c_l ?_
  | with_reducible refine c_t ?_
  | with_reducible refine c_s ?_
  | with_reducible refine x_tst ?_
  | with_reducible refine x_tru ?_
  | with_reducible refine x_truB ?_
  | with_reducible refine x_bl2 ?_
  | with_reducible refine x_int ?_
  | with_reducible refine x_str ?_
  | with_reducible refine x_not ?_
  | with_reducible refine x_and ?_
  | with_reducible refine x_or ?_
  | with_reducible refine x_andV ?_
  | with_reducible refine x_orV ?_
  | with_reducible refine x_notV ?_
  | with_reducible refine x_if ?_
  | with_reducible refine x_yes ?_
  | with_reducible refine x_un ?_
  | with_reducible refine x_tup ?_
  | with_reducible refine x_lst ?_
  | with_reducible refine x_callK ?_
  | with_reducible refine x_callK0 ?_
  | with_reducible refine x_bm ?_
  | with_reducible refine x_bm0 ?_
  | with_reducible refine x_tyS ?_
  | with_reducible refine x_sl ?_
  | with_reducible refine x_nopart ?_
  | with_reducible refine x_part ?_
  | with_reducible refine x_fmt0 ?_
  | with_reducible refine x_gc ?_
  | with_reducible refine x_gz ?_
  | with_reducible refine x_ckw ?_
  | with_reducible refine x_fmt ?_
  | with_reducible refine x_chain ?_
  | with_reducible refine a_ii ?_
  | ((with_reducible refine sl_to ?rda ?rdb ?_); (case rda => walk_at "len"); (case rdb => walk_at "len"))
  | ((with_reducible refine sl_from ?rda ?rdb ?_); (case rda => walk_at "len"); (case rdb => walk_at "len"))
  | ((with_reducible refine sl_mid ?rda ?rdb ?rdc ?_); (case rda => walk_at "len"); (case rdb => walk_at "len"); (case rdc => walk_at "len"))
  | ((with_reducible refine a_SS ?rda ?_); (case rda => walk_at "len"))
  | ((with_reducible refine ln_S ?rda ?_); (case rda => walk_at "len"))
  | with_reducible refine e_SS ?_
  | with_reducible refine ne_SS ?_
  | with_reducible refine s_ii ?_
  | ((with_reducible refine md_ii ?rdc ?_); (case rdc => first | decide | assumption | omega))
  | with_reducible refine n_i ?_
  | with_reducible refine e_ii ?_
  | with_reducible refine e_bb ?_
  | with_reducible refine ne_ii ?_
  | with_reducible refine ne_bb ?_
  | with_reducible refine lt_ii ?_
  | with_reducible refine lt_ss ?_
  | with_reducible refine le_ii ?_
  | with_reducible refine le_ss ?_
  | with_reducible refine gt_ii ?_
  | with_reducible refine gt_ss ?_
  | with_reducible refine ge_ii ?_
  | with_reducible refine e_ss ?_
  | with_reducible refine ne_ss ?_
  | with_reducible refine is_N ?_
  | with_reducible refine is_T ?_
  | with_reducible refine is_B ?_
  | with_reducible refine isn_N ?_
  | with_reducible refine isn_T ?_
  | with_reducible refine isn_B ?_
  | with_reducible refine in_s ?_
  | with_reducible refine nin_s ?_
  | with_reducible refine i_i ?_
  | with_reducible refine i_b ?_
  | with_reducible refine ab_i ?_
  | with_reducible refine mx_ii ?_
  | with_reducible refine mn_ii ?_
  | with_reducible refine ty_N ?_
  | with_reducible refine ty_B ?_
  | with_reducible refine ty_I ?_
  | with_reducible refine ty_S ?_
  | with_reducible refine ma_s ?_
  | with_reducible refine mp_s ?_
  | with_reducible refine mdg_s ?_
  | with_reducible refine mal_s ?_
  | with_reducible refine mlo_s ?_
  | with_reducible refine c_er ?_
  | with_reducible refine c_es ?_
  | with_reducible refine mf_s ?_
  | with_reducible refine iteT ?_
  | with_reducible refine iteF ?_
  | with_reducible refine iteNt ?_
  | with_reducible refine iteNf ?_
  | with_reducible refine iteTd (by decide) ?_
  | with_reducible refine iteFd (by decide) ?_
  | with_reducible refine iteNd (by decide) ?_
  | with_reducible refine iteNdF (by decide) ?_
  | ((with_reducible refine iteFd ?rdn ?_); (case rdn => (intro rdz; cases rdz; done)))
  | ((with_reducible refine iteNdF ?rdn ?_); (case rdn => (intro rdz; cases rdz; done))))
local macro_rules | `(tactic| walk_at "rd") => `(tactic| (repeat walk_at "rd1"))
section
variable {P : Program} {w : World} {K : PySem.W.Frag} {mg : Str → Option Value} {base : Heap}
theorem ty_tu {H : Hp} {x : V} {d : PyData} (h : Dp K H x d) : decide (tyName d = "tuple") = isTu d := by cases h <;> rfl
theorem ty_bo {H : Hp} {x : V} {d : PyData} (h : Dp K H x d) : decide (tyName d = "bool") = isBo d := by cases h <;> rfl
def elD : PyData → List PyData
  | .tuple ds => ds
  | _ => []
theorem tu_el {d : PyData} (h : isTu d = true) : d = .tuple (elD d) := by cases d <;> first | rfl | cases h
def coD (n : Int) : PyData → Bool
  | .tuple [a, b, c, e] => isNumD 0 (n - 1) a && (isBo b && (isTu c && ((elD c).all noD && isChsD e)))
  | _ => false
def hiD : PyData → Bool
  | .tuple ds => (List.range ds.length).all fun i => coD (((i : Nat) : Int) + 1) (ds.getD i .none)
  | _ => false
theorem co_len {n : Int} {ds : List PyData} (h : ds.length ≠ 4) : coD n (.tuple ds) = false := by
  rcases ds with _ | ⟨a, _ | ⟨b, _ | ⟨c, _ | ⟨e, _ | ⟨f, r⟩⟩⟩⟩⟩ <;> first | rfl | exact absurd rfl h
def sp_is_commit (K : PySem.W.Frag) : Sp := fun vs H Q _ => ∃ (n : Int) (x : V) (d : PyData), vs = [.int n, x] ∧ Dp K H x d ∧ Gv d ∧ ∀ H', Same H H' → Q (.bl (coD n d)) H'
theorem ok_is_commit (Y : Fx K mg) : FnOk P w K mg base CX0 6 Y.a_is_commit Y.fd_is_commit ["number", "value"] (sp_is_commit K) := by
  refine Y.F_is_commit.ok sc_is_commit (fun vs H Q E h => ?_) (fun cdv A outer s H vs Q E hr h => ?_)
  · obtain ⟨n, x, d, rfl, _⟩ := h
    rfl
  · obtain ⟨n, x, d, rfl, hx, hg, q⟩ := h
    refine ⟨_, b_is_commit Y (ok_is_changes Y) (ok_is_note Y) (ok_is_number Y) hr, ?_⟩
    show t_is_commit K _ _ _ _ [some (.int n), some x, none, none, none, none, none] H
    unfold t_is_commit
    walk_at "rd"
    refine ty_D hx ?_
    walk_at "rd"
    rw [ty_tu hx]
    cases hx with
    | @tup a us ds hs ha =>
      have hlen := dpAll_len ha
      rw [show (!isTu (PyData.tuple ds)) = false from rfl]
      walk_at "rd"
      refine ln_t hs ?_
      walk_at "rd"
      rw [hlen]
      by_cases h4 : ds.length = 4
      · obtain ⟨a0, b0, c0, e0, rfl⟩ : ∃ a b c e, ds = [a, b, c, e] := by
          rcases ds with _ | ⟨a, _ | ⟨b, _ | ⟨c, _ | ⟨e, _ | ⟨f, r⟩⟩⟩⟩⟩
          · cases h4
          · cases h4
          · cases h4
          · cases h4
          · exact ⟨a, b, c, e, rfl⟩
          · simp at h4
        cases ha with
        | @cons v1 _ _ _ h1 ha =>
        cases ha with
        | @cons v2 _ _ _ h2 ha =>
        cases ha with
        | @cons v3 _ _ _ h3 ha =>
        cases ha with
        | @cons v4 _ _ _ h5 ha =>
        cases ha
        refine iteNd rfl ?_
        walk_at "rd"
        refine gt_T hs rfl ?_
        refine x_gc (s_gn (x_gc (s_gn (x_gc (s_gn (x_gc (s_gn (x_gz ?_))))))))
        have q1 : ∀ H', Same H H' → Q (.bl (isNumD 0 (n - 1) a0 && (isBo b0 && (isTu c0 && ((elD c0).all noD && isChsD e0))))) H' := q
        walk_at "rd"
        refine ⟨v1, a0, 0, n - 1, rfl, h1, ?_⟩
        walk_at "rd"
        cases e1 : isNumD 0 (n - 1) a0 with
        | false =>
          rw [e1] at q1
          walk_at "rd"
          exact q1 H (fun _ _ e => e)
        | true =>
          rw [e1, Bool.true_and] at q1
          walk_at "rd"
          refine ty_D h2 ?_
          walk_at "rd"
          rw [ty_bo h2]
          cases e2 : isBo b0 with
          | false =>
            rw [e2] at q1
            walk_at "rd"
            exact q1 H (fun _ _ e => e)
          | true =>
            rw [e2, Bool.true_and] at q1
            walk_at "rd"
            refine ty_D h3 ?_
            walk_at "rd"
            rw [ty_tu h3]
            cases e3 : isTu c0 with
            | false =>
              rw [e3] at q1
              walk_at "rd"
              exact q1 H (fun _ _ e => e)
            | true =>
              rw [e3, Bool.true_and] at q1
              walk_at "rd"
              have gc := hg.mem (d := c0) (by simp)
              have ge := hg.mem (d := e0) (by simp)
              have hc := tu_el e3
              generalize elD c0 = ns at hc q1
              subst hc
              obtain ⟨pn, un, rfl, hns, hna⟩ := dp_tup' h3
              have hnl := dpAll_len hna
              refine lcT_mk hns (fun D i H' => Same H H' ∧ H' D = some (.lst ((ns.take i).map fun d => V.bl (noD d)))) (fun D hD => ⟨same_upd hD, upd_same⟩) (fun D i H' hD _ hP => same_sqt hP.1 hns) (fun D i x H' hD hx hP => ?_) (fun D H' hD hP => ?_)
              · obtain ⟨hS, hk⟩ := hP
                have hin : i < ns.length := by rw [← hnl]; exact (List.getElem?_eq_some_iff.mp hx).1
                obtain ⟨v, ev, dv⟩ := dpAll_get hna hin
                rw [hx] at ev
                cases ev
                refine ⟨rfl, ?_⟩
                walk_at "rd"
                refine ⟨x, ns[i], rfl, dp_mono hS _ _ dv, gc.mem (List.getElem_mem hin), fun H2 hS2 => ?_⟩
                refine ⟨_, hS2 _ _ hk, ?_, same_mut (hS.trans hS2) hD, ?_⟩
                · rw [List.length_map, List.length_take]
                  have := gc.len
                  exact Nat.lt_of_le_of_lt (show min i _ ≤ 250000 by omega) (by decide)
                · rw [upd_same, bv_snoc (List.getElem?_eq_getElem hin)]
              · obtain ⟨hS, hk⟩ := hP
                rw [hnl, List.take_length] at hk
                walk_at "rd"
                refine al_b (bs := ns.map noD) (lst_of (by rw [hk, List.map_map]; rfl)) ?_
                rw [show (ns.map noD).all id = ns.all noD by rw [List.all_map]; rfl]
                walk_at "rd"
                refine ite2' (fun e5 => ?_) (fun e5 => ?_)
                · rw [e5, Bool.true_and] at q1
                  walk_at "rd"
                  exact ⟨v4, e0, rfl, dp_mono hS _ _ h5, fun ds e => by rw [e] at ge; have := ge.len; omega, fun H2 hS2 => q1 H2 (hS.trans hS2)⟩
                · rw [e5] at q1
                  exact q1 H' hS
      · refine iteNdF (by omega) ?_
        walk_at "rd"
        have q1 := q H (fun _ _ e => e)
        rw [co_len h4] at q1
        exact q1
    | non => walk_at "rd"; exact q H (fun _ _ e => e)
    | bl b => walk_at "rd"; exact q H (fun _ _ e => e)
    | int i => walk_at "rd"; exact q H (fun _ _ e => e)
    | str z => walk_at "rd"; exact q H (fun _ _ e => e)
    | lst h _ => walk_at "rd"; exact q H (fun _ _ e => e)
theorem all_range {n : Nat} (f : Nat → Bool) : ((List.range n).map f).all id = (List.range n).all f := by
  rw [List.all_map]
  rfl
theorem range_snoc {n i : Nat} (h : i < n) (f : Nat → Bool) : ((List.range n).take (i + 1)).map (fun i => V.bl (f i)) = ((List.range n).take i).map (fun i => V.bl (f i)) ++ [V.bl (f i)] := by
  rw [take_snoc (List.getElem?_range h), List.map_append]
  rfl
def sp_is_history (K : PySem.W.Frag) : Sp := fun vs H Q _ => ∃ (x : V) (d : PyData), vs = [x] ∧ Dp K H x d ∧ Gv d ∧ ∀ H', Same H H' → Q (.bl (hiD d)) H'
theorem ok_is_history (Y : Fx K mg) : FnOk P w K mg base CX0 7 Y.a_is_history Y.fd_is_history ["value"] (sp_is_history K) := by
  refine Y.F_is_history.ok sc_is_history (fun vs H Q E h => ?_) (fun cdv A outer s H vs Q E hr h => ?_)
  · obtain ⟨x, d, rfl, _⟩ := h
    rfl
  · obtain ⟨x, d, rfl, hx, hg, q⟩ := h
    refine ⟨_, b_is_history Y (ok_is_commit Y) hr, ?_⟩
    show t_is_history K _ _ [some x, none, none] H
    unfold t_is_history
    walk_at "rd"
    refine ty_D hx ?_
    walk_at "rd"
    rw [ty_tu hx]
    cases hx with
    | @tup a us ds hs ha =>
      have hlen := dpAll_len ha
      have q1 : ∀ H', Same H H' → Q (.bl ((List.range ds.length).all fun i => coD (((i : Nat) : Int) + 1) (ds.getD i .none))) H' := q
      rw [show (!isTu (PyData.tuple ds)) = false from rfl]
      walk_at "rd"
      refine lcES_mk ⟨by decide, by decide⟩ hs (fun D i H' => Same H H' ∧ H' D = some (.lst (((List.range ds.length).take i).map fun i => V.bl (coD (((i : Nat) : Int) + 1) (ds.getD i .none))))) (fun D hD => ⟨same_upd hD, upd_same⟩) (fun D i H' hD _ hP => same_sqt hP.1 hs) (fun D i x H' T hD hx hP hT => ?_) (fun D H' hD hP => ?_)
      · obtain ⟨hS, hk⟩ := hP
        have hin : i < ds.length := by rw [← hlen]; exact (List.getElem?_eq_some_iff.mp hx).1
        obtain ⟨v, ev, dv⟩ := dpAll_get ha hin
        rw [hx] at ev
        cases ev
        have hS2 := same_new hS hT (o := .tup [.int (1 + (i : Nat)), x])
        refine gt_T (tup_of upd_same) rfl ?_
        refine x_gc (s_gn (x_gc (s_gn (x_gz ?_))))
        refine ⟨rfl, ?_⟩
        show tYes _ _ _
        walk_at "rd"
        refine ⟨_, x, ds[i], rfl, dp_mono hS2 _ _ dv, hg.mem (List.getElem_mem hin), fun H3 hS3 => ?_⟩
        refine ⟨_, hS3 _ _ (same_upd hT _ _ hk), ?_, same_mut (hS2.trans hS3) hD, ?_⟩
        · rw [List.length_map, List.length_take]
          have := hg.len
          exact Nat.lt_of_le_of_lt (show min i _ ≤ 250000 by omega) (by decide)
        · rw [upd_same, range_snoc hin]
          have e1 : (1 : Int) + (i : Nat) = ((i : Nat) : Int) + 1 := by omega
          rw [e1, List.getD_eq_getElem?_getD, List.getElem?_eq_getElem hin]
          rfl
      · obtain ⟨hS, hk⟩ := hP
        rw [hlen, List.take_of_length_le (by rw [List.length_range]; exact Nat.le_refl _)] at hk
        walk_at "rd"
        refine al_b (bs := (List.range ds.length).map fun i => coD (((i : Nat) : Int) + 1) (ds.getD i .none)) (lst_of (by rw [hk, List.map_map]; rfl)) ?_
        rw [all_range]
        exact q1 H' hS
    | non => walk_at "rd"; exact q H (fun _ _ e => e)
    | bl b => walk_at "rd"; exact q H (fun _ _ e => e)
    | int i => walk_at "rd"; exact q H (fun _ _ e => e)
    | str z => walk_at "rd"; exact q H (fun _ _ e => e)
    | lst h _ => walk_at "rd"; exact q H (fun _ _ e => e)
end
end My

set_option Elab.async false
set_option linter.all false
set_option maxRecDepth 100000
set_option maxHeartbeats 1000000
namespace My
open PySem PySem.Spec PyProof.Rows L2
local macro_rules | `(tactic| walk_at "len") => `(tactic| first | assumption | omega | decide | (simp only [List.length_append, List.length_take, List.length_drop, List.length_cons, List.length_nil, List.length_replicate]; omega))
local macro_rules | `(tactic| walk_at "side") => `(tactic| first | assumption | exact Nat.zero_le _ | decide | omega)
local macro_rules | `(tactic| walk_at "rd1") => `(tactic| first
  | with_reducible refine s_seq ?_
  | with_reducible refine x_gsub ?_
  | with_reducible refine s_asg ?_
  | ((with_reducible refine s_gn ?_); dsimp only [List.set])
  | ((with_reducible refine x_var (v := ?rdv) ?rdhv ?_); (case rdhv => rfl))
  | with_reducible refine x_c ?_
  | with_reducible refine x_op ?_
  | with_reducible refine x_cons ?_
  | with_reducible refine x_nil ?_
  | with_reducible refine x_cb ?_
  | with_reducible refine x_call ?_
  | with_reducible refine x_callS ?_
  | with_reducible refine x_revT ?_
  | with_reducible refine x_dget ?_
  | with_reducible refine x_makeS ?_
  | with_reducible refine x_make ?_
  | with_reducible refine x_makeKS ?_
  | with_reducible refine x_methS ?_
  | with_reducible refine x_meth ?_
  | with_reducible refine x_methK ?_
  | with_reducible refine x_fld ?_
  | with_reducible refine s_fld ?_
  | with_reducible refine f_rt ?_
  | with_reducible refine f_zm ?_
  | with_reducible refine c_zm ?_
  | with_reducible refine x_din ?_
  | with_reducible refine x_dnotin ?_
  | with_reducible refine s_dput ?_
  | with_reducible refine x_dnew ?_
  | with_reducible refine s_try ?_
  | with_reducible refine s_raise ?_
  | with_reducible refine s_if ?_
  | with_reducible refine s_ret ?_
  | with_reducible refine s_retN ?_
  | with_reducible refine s_next ?_
  | with_reducible refine s_brk ?_
  | with_reducible refine s_cont ?_
  | with_reducible refine s_drop ?_
  | with_reducible refine s_par ?_
  | with_reducible refine s_par3 ?_
  | ((with_reducible refine s_p2 ?_); dsimp only [List.set])
  | ((with_reducible refine s_p3 ?_); dsimp only [List.set])
  | with_reducible refine f_r1 ?_
  | with_reducible refine f_r2 ?_
  | with_reducible refine f_l ?_
  | with_reducible refine f_t ?_
  | with_reducible refine f_s ?_
  | with_reducible refine c_r1 ?_
  | with_reducible refine c_r2 ?_
  | with_reducible refine c_l ?_
  | with_reducible refine c_t ?_
  | with_reducible refine c_s ?_
  | with_reducible refine x_tst ?_
  | with_reducible refine x_tru ?_
  | with_reducible refine x_truB ?_
  | with_reducible refine x_bl2 ?_
  | with_reducible refine x_int ?_
  | with_reducible refine x_str ?_
  | with_reducible refine x_not ?_
  | with_reducible refine x_and ?_
  | with_reducible refine x_or ?_
  | with_reducible refine x_andV ?_
  | with_reducible refine x_orV ?_
  | with_reducible refine x_notV ?_
  | with_reducible refine x_if ?_
  | with_reducible refine x_yes ?_
  | with_reducible refine x_un ?_
  | with_reducible refine x_tup ?_
  | with_reducible refine x_lst ?_
  | with_reducible refine x_callK ?_
  | with_reducible refine x_callK0 ?_
  | with_reducible refine x_bm ?_
  | with_reducible refine x_bm0 ?_
  | with_reducible refine x_tyS ?_
  | with_reducible refine x_sl ?_
  | with_reducible refine x_nopart ?_
  | with_reducible refine x_part ?_
  | with_reducible refine x_fmt0 ?_
  | with_reducible refine x_gc ?_
  | with_reducible refine x_gz ?_
  | with_reducible refine x_ckw ?_
  | with_reducible refine x_fmt ?_
  | with_reducible refine x_chain ?_
  | with_reducible refine a_ii ?_
  | ((with_reducible refine sl_to ?rda ?rdb ?_); (case rda => walk_at "len"); (case rdb => walk_at "len"))
  | ((with_reducible refine sl_from ?rda ?rdb ?_); (case rda => walk_at "len"); (case rdb => walk_at "len"))
  | ((with_reducible refine sl_mid ?rda ?rdb ?rdc ?_); (case rda => walk_at "len"); (case rdb => walk_at "len"); (case rdc => walk_at "len"))
  | ((with_reducible refine a_SS ?rda ?_); (case rda => walk_at "len"))
  | ((with_reducible refine ln_S ?rda ?_); (case rda => walk_at "len"))
  | with_reducible refine e_SS ?_
  | with_reducible refine ne_SS ?_
  | with_reducible refine s_ii ?_
  | ((with_reducible refine md_ii ?rdc ?_); (case rdc => first | decide | assumption | omega))
  | with_reducible refine n_i ?_
  | with_reducible refine e_ii ?_
  | with_reducible refine e_bb ?_
  | with_reducible refine ne_ii ?_
  | with_reducible refine ne_bb ?_
  | with_reducible refine lt_ii ?_
  | with_reducible refine lt_ss ?_
  | with_reducible refine le_ii ?_
  | with_reducible refine le_ss ?_
  | with_reducible refine gt_ii ?_
  | with_reducible refine gt_ss ?_
  | with_reducible refine ge_ii ?_
  | with_reducible refine e_ss ?_
  | with_reducible refine ne_ss ?_
  | with_reducible refine is_N ?_
  | with_reducible refine is_T ?_
  | with_reducible refine is_B ?_
  | with_reducible refine isn_N ?_
  | with_reducible refine isn_T ?_
  | with_reducible refine isn_B ?_
  | with_reducible refine in_s ?_
  | with_reducible refine nin_s ?_
  | with_reducible refine i_i ?_
  | with_reducible refine i_b ?_
  | with_reducible refine ab_i ?_
  | with_reducible refine mx_ii ?_
  | with_reducible refine mn_ii ?_
  | with_reducible refine ty_N ?_
  | with_reducible refine ty_B ?_
  | with_reducible refine ty_I ?_
  | with_reducible refine ty_S ?_
  | with_reducible refine ma_s ?_
  | with_reducible refine mp_s ?_
  | with_reducible refine mdg_s ?_
  | with_reducible refine mal_s ?_
  | with_reducible refine mlo_s ?_
  | with_reducible refine c_er ?_
  | with_reducible refine c_es ?_
  | with_reducible refine mf_s ?_
  | with_reducible refine iteT ?_
  | with_reducible refine iteF ?_
  | with_reducible refine iteNt ?_
  | with_reducible refine iteNf ?_
  | with_reducible refine iteTd (by decide) ?_
  | with_reducible refine iteFd (by decide) ?_
  | with_reducible refine iteNd (by decide) ?_
  | with_reducible refine iteNdF (by decide) ?_
  | ((with_reducible refine iteFd ?rdn ?_); (case rdn => (intro rdz; cases rdz; done)))
  | ((with_reducible refine iteNdF ?rdn ?_); (case rdn => (intro rdz; cases rdz; done))))
local macro_rules | `(tactic| walk_at "rd") => `(tactic| (repeat walk_at "rd1"))
section
variable {P : Program} {w : World} {K : PySem.W.Frag} {mg : Str → Option Value} {base : Heap}
/-! the law's own judges -/
theorem Gv.text {l : List Nat} (h : Gv (.str (S l))) : l.length ≤ 100000 := by
  obtain ⟨k, W, h1, _, h3⟩ := h
  have h4 := h1.3
  rw [sh, S_len] at h4
  omega
def sgB (c : Nat) : Bool := decide (32 ≤ c) && decide (c ≤ 126)
theorem isT_sg (l : List Nat) : isT l = (l.map sgB).all id := by
  rw [List.all_map]
  rfl
theorem one_lt (a b : Nat) : decide ([a] < [b]) = decide (a < b) := by
  refine decide_eq_decide.mpr ⟨fun h => ?_, fun h => .rel h⟩
  rw [List.cons_lt_cons_iff] at h
  rcases h with h | ⟨_, h⟩
  · exact h
  · exact absurd h (List.not_lt_nil _)
def sp_lis_text (K : PySem.W.Frag) : Sp := fun vs H Q _ => ∃ (x : V) (d : PyData), vs = [x] ∧ Dp K H x d ∧ Gv d ∧ ∀ H', Same H H' → Q (.bl (isTxD d)) H'
theorem ok_lis_text (Y : Fx K mg) : FnOk P w K mg base CX0 1 Y.a__law_is_text Y.fd__law_is_text ["_law_value"] (sp_lis_text K) := by
  refine Y.F__law_is_text.ok sc__law_is_text (fun vs H Q E h => ?_) (fun cdv A outer s H vs Q E hr h => ?_)
  · obtain ⟨x, d, rfl, _⟩ := h
    rfl
  · obtain ⟨x, d, rfl, hx, hg, q⟩ := h
    refine ⟨_, b__law_is_text Y hr, ?_⟩
    show t__law_is_text K _ [some x, none] H
    unfold t__law_is_text
    rw [show (" " : Str) = S [32] from rfl, show ("~" : Str) = S [126] from rfl]
    walk_at "rd"
    refine isi_d hx (kit_st hx) ?_
    cases hx with
    | str z =>
      obtain ⟨l, rfl⟩ : ∃ l, z = S l := ⟨_, S_eta z⟩
      have hl := hg.text
      have q' : ∀ H', Same H H' → Q (.bl (isT l)) H' := q
      show ∃ c, V.bl true = .bl c ∧ _
      walk_at "rd"
      refine lcS_mk (fun D i H' => Same H H' ∧ H' D = some (.lst ((l.take i).map fun c => V.bl (sgB c)))) (fun D hD => ⟨same_upd hD, upd_same⟩) (fun D i c H' hD hc hP => ?_) (fun D H' hD hP => ?_)
      · obtain ⟨hS, hk⟩ := hP
        have hin := (List.getElem?_eq_some_iff.mp hc).1
        have fin : ∃ acc, H' D = some (.lst acc) ∧ acc.length < sizeLine ∧ (Same H (upd H' D (.lst (acc ++ [.bl (sgB c)]))) ∧ (upd H' D (.lst (acc ++ [.bl (sgB c)]))) D = some (.lst ((l.take (i + 1)).map fun c => V.bl (sgB c)))) := by
          refine ⟨_, hk, ?_, same_mut hS hD, ?_⟩
          · rw [List.length_map, List.length_take]
            exact Nat.lt_of_le_of_lt (show min i _ ≤ 100000 by omega) (by decide)
          · rw [upd_same, take_snoc hc, List.map_append]
            rfl
        refine ⟨rfl, ?_⟩
        walk_at "rd"
        show if (!decide ([c] < [32])) = true then _ else _
        rw [one_lt]
        by_cases h1 : c < 32
        · rw [decide_eq_true h1]
          have e : sgB c = false := by unfold sgB; rw [decide_eq_false (by omega)]; rfl
          rw [e] at fin
          walk_at "rd"
          exact fin
        · rw [decide_eq_false h1]
          walk_at "rd"
          have e : sgB c = !decide ([126] < [c]) := by
            unfold sgB
            rw [one_lt, decide_eq_true (show 32 ≤ c by omega), Bool.true_and, ← decide_not]
            exact decide_eq_decide.mpr (by omega)
          rw [e] at fin
          exact fin
      · obtain ⟨hS, hk⟩ := hP
        rw [List.take_length] at hk
        walk_at "rd"
        refine al_b (bs := l.map sgB) (lst_of (by rw [hk, List.map_map]; rfl)) ?_
        rw [← isT_sg]
        exact q' H' hS
    | non => show ∃ c, V.bl false = .bl c ∧ _; walk_at "rd"; exact q H (fun _ _ e => e)
    | bl b => show ∃ c, V.bl false = .bl c ∧ _; walk_at "rd"; exact q H (fun _ _ e => e)
    | int i => show ∃ c, V.bl false = .bl c ∧ _; walk_at "rd"; exact q H (fun _ _ e => e)
    | lst a b => show ∃ c, V.bl false = .bl c ∧ _; walk_at "rd"; exact q H (fun _ _ e => e)
    | tup a b => show ∃ c, V.bl false = .bl c ∧ _; walk_at "rd"; exact q H (fun _ _ e => e)
def rwD (m : Bool) : PyData → Bool
  | .tuple [a, b] => isTxD a && (isTxD b || (m && isNo b))
  | _ => false
theorem rw_len {m : Bool} {ds : List PyData} (h : ds.length ≠ 2) : rwD m (.tuple ds) = false := by
  rcases ds with _ | ⟨a, _ | ⟨b, _ | ⟨c, r⟩⟩⟩ <;> first | rfl | exact absurd rfl h
def sp_lis_row (K : PySem.W.Frag) : Sp := fun vs H Q _ => ∃ (x : V) (d : PyData) (m : Bool), vs = [x, .bl m] ∧ Dp K H x d ∧ Gv d ∧ ∀ H', Same H H' → Q (.bl (rwD m d)) H'
theorem ok_lis_row (Y : Fx K mg) : FnOk P w K mg base CX0 2 Y.a__law_is_row Y.fd__law_is_row ["_law_row", "_law_may_go"] (sp_lis_row K) := by
  refine Y.F__law_is_row.ok sc__law_is_row (fun vs H Q E h => ?_) (fun cdv A outer s H vs Q E hr h => ?_)
  · obtain ⟨x, d, m, rfl, _⟩ := h
    rfl
  · obtain ⟨x, d, m, rfl, hx, hg, q⟩ := h
    refine ⟨_, b__law_is_row Y (ok_lis_text Y) hr, ?_⟩
    show t__law_is_row K _ _ [some x, some (.bl m)] H
    unfold t__law_is_row
    walk_at "rd"
    refine isi_d hx (kit_tu hx) ?_
    cases hx with
    | @tup a us ds hs ha =>
      have hlen := dpAll_len ha
      show ∃ k, TruV K (.bl true) H k ∧ _
      walk_at "rd"
      refine ln_t hs ?_
      walk_at "rd"
      rw [hlen]
      by_cases h2 : ds.length = 2
      · obtain ⟨a, b, rfl⟩ : ∃ a b, ds = [a, b] := by
          rcases ds with _ | ⟨a, _ | ⟨b, _ | ⟨c, r⟩⟩⟩
          · cases h2
          · cases h2
          · exact ⟨a, b, rfl⟩
          · simp at h2
        cases ha with
        | @cons v1 _ _ _ h1 ha =>
        cases ha with
        | @cons v2 _ _ _ h3 ha =>
        cases ha
        have q' : ∀ H', Same H H' → Q (.bl (isTxD a && (isTxD b || (m && isNo b)))) H' := q
        refine iteNd rfl ?_
        walk_at "rd"
        refine ix_T hs (by rfl) ?_
        walk_at "rd"
        refine ⟨v1, a, rfl, h1, hg.mem (by simp), fun H1 hS1 => ?_⟩
        walk_at "rd"
        cases e1 : isTxD a with
        | false =>
          rw [e1] at q'
          walk_at "rd"
          exact q' H1 hS1
        | true =>
          rw [e1, Bool.true_and] at q'
          walk_at "rd"
          refine ix_T (same_sqt hS1 hs) (by rfl) ?_
          walk_at "rd"
          refine ⟨v2, b, rfl, dp_mono hS1 _ _ h3, hg.mem (by simp), fun H2 hS2 => ?_⟩
          walk_at "rd"
          cases e2 : isTxD b with
          | true =>
            rw [e2] at q'
            walk_at "rd"
            exact q' H2 (hS1.trans hS2)
          | false =>
            rw [e2, Bool.false_or] at q'
            walk_at "rd"
            cases m with
            | false =>
              walk_at "rd"
              exact q' H2 (hS1.trans hS2)
            | true =>
              walk_at "rd"
              refine ix_T (same_sqt (hS1.trans hS2) hs) (by rfl) ?_
              walk_at "rd"
              rw [non_d h3]
              exact q' H2 (hS1.trans hS2)
      · refine iteNdF (by omega) ?_
        walk_at "rd"
        have q1 := q H (fun _ _ e => e)
        rw [rw_len h2] at q1
        exact q1
    | non => show ∃ k, TruV K (.bl false) H k ∧ _; walk_at "rd"; exact q H (fun _ _ e => e)
    | bl b => show ∃ k, TruV K (.bl false) H k ∧ _; walk_at "rd"; exact q H (fun _ _ e => e)
    | int i => show ∃ k, TruV K (.bl false) H k ∧ _; walk_at "rd"; exact q H (fun _ _ e => e)
    | str z => show ∃ k, TruV K (.bl false) H k ∧ _; walk_at "rd"; exact q H (fun _ _ e => e)
    | lst a b => show ∃ k, TruV K (.bl false) H k ∧ _; walk_at "rd"; exact q H (fun _ _ e => e)
/-! rows -/
def arD (m : Bool) : PyData → Bool
  | .tuple ds => ds.all (rwD m) && ascL (ds.map keyD)
  | _ => false
theorem rw_chg (d : PyData) : rwD true d = isChgD d := by
  cases d with
  | tuple ds =>
    rcases ds with _ | ⟨a, _ | ⟨b, _ | ⟨c, r⟩⟩⟩
    · rfl
    · rfl
    · show (isTxD a && (isTxD b || (true && isNo b))) = (isTxD a && (isNo b || isTxD b))
      rw [Bool.true_and, Bool.or_comm (isTxD b)]
    · rfl
  | _ => rfl
theorem ar_chs (d : PyData) : arD true d = isChsD d := by
  cases d with
  | tuple ds =>
    show (ds.all (rwD true) && ascL (ds.map keyD)) = (ds.all isChgD && ascL (ds.map keyD))
    rw [show rwD true = isChgD from funext rw_chg]
  | _ => rfl
theorem rw_ent (d : PyData) : rwD false d = (isChgD d && !isNo (valD d)) := by
  cases d with
  | tuple ds =>
    rcases ds with _ | ⟨a, _ | ⟨b, _ | ⟨c, r⟩⟩⟩
    · rfl
    · rfl
    · show (isTxD a && (isTxD b || (false && isNo b))) = ((isTxD a && (isNo b || isTxD b)) && !isNo b)
      cases b <;> simp [isTxD, isNo]
    · rfl
  | _ => rfl
theorem ar_ent (d : PyData) : arD false d = isEntD d := by
  cases d with
  | tuple ds =>
    show (ds.all (rwD false) && ascL (ds.map keyD)) = ((ds.all isChgD && ascL (ds.map keyD)) && ds.all fun e => !isNo (valD e))
    rw [show ds.all (rwD false) = (ds.all isChgD && ds.all fun e => !isNo (valD e)) from by
      induction ds with
      | nil => rfl
      | cons a r ih => rw [List.all_cons, List.all_cons, List.all_cons, ih, rw_ent]; cases isChgD a <;> cases r.all isChgD <;> simp]
    cases ds.all isChgD <;> cases ascL (ds.map keyD) <;> simp
  | _ => rfl
end
end My

set_option Elab.async false
set_option linter.all false
set_option maxRecDepth 100000
set_option maxHeartbeats 1000000
namespace My
open PySem PySem.Spec PyProof.Rows L2
local macro_rules | `(tactic| walk_at "len") => `(tactic| first | assumption | omega | decide | (simp only [List.length_append, List.length_take, List.length_drop, List.length_cons, List.length_nil, List.length_replicate]; omega))
local macro_rules | `(tactic| walk_at "side") => `(tactic| first | assumption | exact Nat.zero_le _ | decide | omega)
local macro_rules | `(tactic| walk_at "rd1") => `(tactic| first
  | with_reducible refine s_seq ?_
  | with_reducible refine x_gsub ?_
  | with_reducible refine s_asg ?_
  | ((with_reducible refine s_gn ?_); dsimp only [List.set])
  | ((with_reducible refine x_var (v := ?rdv) ?rdhv ?_); (case rdhv => rfl))
  | with_reducible refine x_c ?_
  | with_reducible refine x_op ?_
  | with_reducible refine x_cons ?_
  | with_reducible refine x_nil ?_
  | with_reducible refine x_cb ?_
  | with_reducible refine x_call ?_
  | with_reducible refine x_callS ?_
  | with_reducible refine x_revT ?_
  | with_reducible refine x_dget ?_
  | with_reducible refine x_makeS ?_
  | with_reducible refine x_make ?_
  | with_reducible refine x_makeKS ?_
  | with_reducible refine x_methS ?_
  | with_reducible refine x_meth ?_
  | with_reducible refine x_methK ?_
  | with_reducible refine x_fld ?_
  | with_reducible refine s_fld ?_
  | with_reducible refine f_rt ?_
  | with_reducible refine f_zm ?_
  | with_reducible refine c_zm ?_
  | with_reducible refine x_din ?_
  | with_reducible refine x_dnotin ?_
  | with_reducible refine s_dput ?_
  | with_reducible refine x_dnew ?_
  | with_reducible refine s_try ?_
  | with_reducible refine s_raise ?_
  | with_reducible refine s_if ?_
  | with_reducible refine s_ret ?_
  | with_reducible refine s_retN ?_
  | with_reducible refine s_next ?_
  | with_reducible refine s_brk ?_
  | with_reducible refine s_cont ?_
  | with_reducible refine s_drop ?_
  | with_reducible refine s_par ?_
  | with_reducible refine s_par3 ?_
  | ((with_reducible refine s_p2 ?_); dsimp only [List.set])
  | ((with_reducible refine s_p3 ?_); dsimp only [List.set])
  | with_reducible refine f_r1 ?_
  | with_reducible refine f_r2 ?_
  | with_reducible refine f_l ?_
  | with_reducible refine f_t ?_
  | with_reducible refine f_s ?_
  | with_reducible refine c_r1 ?_
  | with_reducible refine c_r2 ?_
  | with_reducible refine c_l ?_
  | with_reducible refine c_t ?_
  | with_reducible refine c_s ?_
  | with_reducible refine x_tst ?_
  | with_reducible refine x_tru ?_
  | with_reducible refine x_truB ?_
  | with_reducible refine x_bl2 ?_
  | with_reducible refine x_int ?_
  | with_reducible refine x_str ?_
  | with_reducible refine x_not ?_
  | with_reducible refine x_and ?_
  | with_reducible refine x_or ?_
  | with_reducible refine x_andV ?_
  | with_reducible refine x_orV ?_
  | with_reducible refine x_notV ?_
  | with_reducible refine x_if ?_
  | with_reducible refine x_yes ?_
  | with_reducible refine x_un ?_
  | with_reducible refine x_tup ?_
  | with_reducible refine x_lst ?_
  | with_reducible refine x_callK ?_
  | with_reducible refine x_callK0 ?_
  | with_reducible refine x_bm ?_
  | with_reducible refine x_bm0 ?_
  | with_reducible refine x_tyS ?_
  | with_reducible refine x_sl ?_
  | with_reducible refine x_nopart ?_
  | with_reducible refine x_part ?_
  | with_reducible refine x_fmt0 ?_
  | with_reducible refine x_gc ?_
  | with_reducible refine x_gz ?_
  | with_reducible refine x_ckw ?_
  | with_reducible refine x_fmt ?_
  | with_reducible refine x_chain ?_
  | with_reducible refine a_ii ?_
  | ((with_reducible refine sl_to ?rda ?rdb ?_); (case rda => walk_at "len"); (case rdb => walk_at "len"))
  | ((with_reducible refine sl_from ?rda ?rdb ?_); (case rda => walk_at "len"); (case rdb => walk_at "len"))
  | ((with_reducible refine sl_mid ?rda ?rdb ?rdc ?_); (case rda => walk_at "len"); (case rdb => walk_at "len"); (case rdc => walk_at "len"))
  | ((with_reducible refine a_SS ?rda ?_); (case rda => walk_at "len"))
  | ((with_reducible refine ln_S ?rda ?_); (case rda => walk_at "len"))
  | with_reducible refine e_SS ?_
  | with_reducible refine ne_SS ?_
  | with_reducible refine s_ii ?_
  | ((with_reducible refine md_ii ?rdc ?_); (case rdc => first | decide | assumption | omega))
  | with_reducible refine n_i ?_
  | with_reducible refine e_ii ?_
  | with_reducible refine e_bb ?_
  | with_reducible refine ne_ii ?_
  | with_reducible refine ne_bb ?_
  | with_reducible refine lt_ii ?_
  | with_reducible refine lt_ss ?_
  | with_reducible refine le_ii ?_
  | with_reducible refine le_ss ?_
  | with_reducible refine gt_ii ?_
  | with_reducible refine gt_ss ?_
  | with_reducible refine ge_ii ?_
  | with_reducible refine e_ss ?_
  | with_reducible refine ne_ss ?_
  | with_reducible refine is_N ?_
  | with_reducible refine is_T ?_
  | with_reducible refine is_B ?_
  | with_reducible refine isn_N ?_
  | with_reducible refine isn_T ?_
  | with_reducible refine isn_B ?_
  | with_reducible refine in_s ?_
  | with_reducible refine nin_s ?_
  | with_reducible refine i_i ?_
  | with_reducible refine i_b ?_
  | with_reducible refine ab_i ?_
  | with_reducible refine mx_ii ?_
  | with_reducible refine mn_ii ?_
  | with_reducible refine ty_N ?_
  | with_reducible refine ty_B ?_
  | with_reducible refine ty_I ?_
  | with_reducible refine ty_S ?_
  | with_reducible refine ma_s ?_
  | with_reducible refine mp_s ?_
  | with_reducible refine mdg_s ?_
  | with_reducible refine mal_s ?_
  | with_reducible refine mlo_s ?_
  | with_reducible refine c_er ?_
  | with_reducible refine c_es ?_
  | with_reducible refine mf_s ?_
  | with_reducible refine iteT ?_
  | with_reducible refine iteF ?_
  | with_reducible refine iteNt ?_
  | with_reducible refine iteNf ?_
  | with_reducible refine iteTd (by decide) ?_
  | with_reducible refine iteFd (by decide) ?_
  | with_reducible refine iteNd (by decide) ?_
  | with_reducible refine iteNdF (by decide) ?_
  | ((with_reducible refine iteFd ?rdn ?_); (case rdn => (intro rdz; cases rdz; done)))
  | ((with_reducible refine iteNdF ?rdn ?_); (case rdn => (intro rdz; cases rdz; done))))
local macro_rules | `(tactic| walk_at "rd") => `(tactic| (repeat walk_at "rd1"))
section
variable {P : Program} {w : World} {K : PySem.W.Frag} {mg : Str → Option Value} {base : Heap}
theorem asc_iff (ks : List (List Nat)) : ascL ks = true ↔ ∀ (i : Nat) (a b : List Nat), ks[i]? = some a → ks[i + 1]? = some b → a < b := by
  unfold ascL
  rw [List.all_eq_true]
  refine ⟨fun h i a b h1 h2 => ?_, fun h x hx => ?_⟩
  · have := h _ (List.mem_of_getElem? (zip_at h1 h2))
    exact of_decide_eq_true this
  · obtain ⟨i, hi⟩ := List.getElem?_of_mem hx
    have hl := (List.getElem?_eq_some_iff.mp hi).1
    rw [zip_len] at hl
    have h1 : ks[i]? = some ks[i] := List.getElem?_eq_getElem (by omega)
    have h2 : ks[i + 1]? = some ks[i + 1] := List.getElem?_eq_getElem (by omega)
    rw [zip_at h1 h2] at hi
    cases hi
    exact decide_eq_true (h i _ _ h1 h2)
theorem ar_true (m : Bool) (ds : List PyData) : arD m (.tuple ds) = true ↔ (∀ (j : Nat) (d : PyData), ds[j]? = some d → rwD m d = true) ∧ ∀ (j : Nat) (d e : PyData), ds[j]? = some d → ds[j + 1]? = some e → keyD d < keyD e := by
  show (ds.all (rwD m) && ascL (ds.map keyD)) = true ↔ _
  rw [Bool.and_eq_true, asc_iff, List.all_eq_true]
  refine ⟨fun ⟨h1, h2⟩ => ⟨fun j d hd => h1 d (List.mem_of_getElem? hd), fun j d e hd he => h2 j _ _ (by rw [List.getElem?_map, hd]; rfl) (by rw [List.getElem?_map, he]; rfl)⟩, fun ⟨h1, h2⟩ => ⟨fun d hd => ?_, fun j a b ha hb => ?_⟩⟩
  · obtain ⟨j, hj⟩ := List.getElem?_of_mem hd
    exact h1 j d hj
  · rw [List.getElem?_map] at ha hb
    cases e1 : ds[j]? with
    | none => rw [e1] at ha; cases ha
    | some d =>
      cases e2 : ds[j + 1]? with
      | none => rw [e2] at hb; cases hb
      | some e =>
        rw [e1] at ha
        rw [e2] at hb
        cases ha
        cases hb
        exact h2 j d e e1 e2
theorem rw_key {m : Bool} {d : PyData} (h : rwD m d = true) : ∃ l b, d = .tuple [.str (S l), b] := by
  cases d with
  | tuple ds =>
    rcases ds with _ | ⟨a, _ | ⟨b, _ | ⟨c, r⟩⟩⟩
    · cases h
    · cases h
    · have h' : (isTxD a && (isTxD b || (m && isNo b))) = true := h
      rw [Bool.and_eq_true] at h'
      cases a with
      | str z => exact ⟨z.cps.toList, b, by rw [← S_eta z]⟩
      | _ => cases h'.1
    · cases h
  | _ => cases h
def sp_lrows (K : PySem.W.Frag) : Sp := fun vs H Q _ => ∃ (x : V) (d : PyData) (m : Bool), vs = [x, .bl m] ∧ Dp K H x d ∧ Gv d ∧ ∀ H', Same H H' → Q (.bl (arD m d)) H'
theorem ok_lrows (Y : Fx K mg) : FnOk P w K mg base CX0 3 Y.a__law_are_rows Y.fd__law_are_rows ["_law_value", "_law_may_go"] (sp_lrows K) := by
  refine Y.F__law_are_rows.ok sc__law_are_rows (fun vs H Q E h => ?_) (fun cdv A outer s H vs Q E hr h => ?_)
  · obtain ⟨x, d, m, rfl, _⟩ := h
    rfl
  · obtain ⟨x, d, m, rfl, hx, hg, q⟩ := h
    refine ⟨_, b__law_are_rows Y (ok_lis_row Y) hr, ?_⟩
    show t__law_are_rows K _ _ [some x, some (.bl m), none] H
    unfold t__law_are_rows
    walk_at "rd"
    refine isi_d hx (kit_tu hx) ?_
    cases hx with
    | @tup a us ds hs ha =>
      have hlen := dpAll_len ha
      have hgl := hg.len
      show ∃ k, TruV K (.bl true) H k ∧ _
      walk_at "rd"
      refine ln_t hs ?_
      walk_at "rd"
      rw [hlen]
      have no : arD m (.tuple ds) = false → ∀ H', Same H H' → Q (.bl false) H' := fun e H' hS => by
        have := q H' hS
        rw [e] at this
        exact this
      refine for1_mk (by omega) (by omega) (fun k σ H' => Same H H' ∧ ∃ t, σ = [some (.ref a), some (.bl m), t] ∧ (∀ (j : Nat) (d : PyData), j < k → ds[j]? = some d → rwD m d = true) ∧ ∀ (j : Nat) (d e : PyData), j + 1 < k → ds[j]? = some d → ds[j + 1]? = some e → keyD d < keyD e) ⟨fun _ _ e => e, none, rfl, fun j d h => absurd h (Nat.not_lt_zero _), fun j d e h => absurd h (Nat.not_lt_zero _)⟩ (fun k σ H' hk hP => ?_) (fun σ H' hP => ?_)
      · obtain ⟨hS, t, rfl, h1, h2⟩ := hP
        rw [Int.toNat_natCast] at hk
        obtain ⟨v, ev, dv⟩ := dpAll_get ha hk
        have hdk : ds[k]? = some ds[k] := List.getElem?_eq_getElem hk
        refine s_gn ?_
        dsimp only [List.set]
        walk_at "rd"
        refine ix_T (same_sqt hS hs) (at_nat (by omega) (by rw [Int.toNat_natCast]; exact ev)) ?_
        walk_at "rd"
        refine ⟨v, ds[k], m, rfl, dp_mono hS _ _ dv, hg.mem (List.getElem_mem hk), fun H2 hS2 => ?_⟩
        have hS3 := hS.trans hS2
        walk_at "rd"
        cases e1 : rwD m ds[k] with
        | false =>
          walk_at "rd"
          refine no ?_ H2 hS3
          cases e2 : arD m (.tuple ds) with
          | false => rfl
          | true =>
            have := ((ar_true m ds).mp e2).1 k _ hdk
            rw [e1] at this
            cases this
        | true =>
          have h1' : ∀ (j : Nat) (d : PyData), j < k + 1 → ds[j]? = some d → rwD m d = true := fun j d hj hd => by
            by_cases z : j = k
            · subst z
              rw [hdk] at hd
              cases hd
              exact e1
            · exact h1 j d (by omega) hd
          walk_at "rd"
          by_cases hk0 : k = 0
          · subst hk0
            refine iteFd (by decide) ?_
            walk_at "rd"
            exact ⟨hS3, _, rfl, h1', fun j d e h => absurd h (by omega)⟩
          · refine iteTd (show (0 : Int) < (k : Int) by omega) ?_
            obtain ⟨v0, ev0, dv0⟩ := dpAll_get ha (show k - 1 < ds.length by omega)
            have hd0 : ds[k - 1]? = some (ds[k - 1]'(by omega)) := List.getElem?_eq_getElem (by omega)
            have r0 := h1 (k - 1) _ (by omega) hd0
            generalize ds[k - 1]'(by omega) = d0 at hd0 r0 dv0
            obtain ⟨l0, b0, rfl⟩ := rw_key r0
            have r1 := e1
            generalize hgd : ds[k] = d1 at hdk dv r1
            obtain ⟨l1, b1, rfl⟩ := rw_key r1
            obtain ⟨p0, x0, y0, rfl, hs0, hx0, _⟩ := dp_tup2 dv0
            obtain ⟨p1, x1, y1, rfl, hs1, hx1, _⟩ := dp_tup2 dv
            rw [dp_str' hx0] at hs0
            rw [dp_str' hx1] at hs1
            walk_at "rd"
            refine ix_T (same_sqt hS3 hs) (at_nat (v := .ref p0) (by omega) (by rw [show ((k : Int) - 1).toNat = k - 1 by omega]; exact ev0)) ?_
            walk_at "rd"
            refine ix_T (same_sqt hS3 hs0) (by rfl) ?_
            walk_at "rd"
            refine ix_T (same_sqt hS3 hs) (at_nat (v := .ref p1) (by omega) (by rw [Int.toNat_natCast]; exact ev)) ?_
            walk_at "rd"
            refine ix_T (same_sqt hS3 hs1) (by rfl) ?_
            refine lt_ss ?_
            show ∃ k, V.bl (decide (l0 < l1)) = .bl k ∧ _
            by_cases hlt : l0 < l1
            · rw [decide_eq_true hlt]
              walk_at "rd"
              refine ⟨hS3, _, rfl, h1', fun j d e hj hd he => ?_⟩
              by_cases z : j + 1 = k
              · have zj : j = k - 1 := by omega
                subst zj
                rw [hd0] at hd
                rw [show k - 1 + 1 = k by omega, hdk] at he
                cases hd
                cases he
                exact hlt
              · exact h2 j d e (by omega) hd he
            · rw [decide_eq_false hlt]
              walk_at "rd"
              refine no ?_ H2 hS3
              cases e2 : arD m (.tuple ds) with
              | false => rfl
              | true =>
                have := ((ar_true m ds).mp e2).2 (k - 1) _ _ hd0 (by rw [show k - 1 + 1 = k by omega]; exact hdk)
                exact absurd this hlt
      · obtain ⟨hS, t, rfl, h1, h2⟩ := hP
        rw [Int.toNat_natCast] at h1 h2
        walk_at "rd"
        have e : arD m (.tuple ds) = true := (ar_true m ds).mpr ⟨fun j d hd => h1 j d (List.getElem?_eq_some_iff.mp hd).1 hd, fun j d e hd he => h2 j d e (List.getElem?_eq_some_iff.mp he).1 hd he⟩
        have := q H' hS
        rw [e] at this
        exact this
    | non => show ∃ k, TruV K (.bl false) H k ∧ _; walk_at "rd"; exact q H (fun _ _ e => e)
    | bl b => show ∃ k, TruV K (.bl false) H k ∧ _; walk_at "rd"; exact q H (fun _ _ e => e)
    | int i => show ∃ k, TruV K (.bl false) H k ∧ _; walk_at "rd"; exact q H (fun _ _ e => e)
    | str z => show ∃ k, TruV K (.bl false) H k ∧ _; walk_at "rd"; exact q H (fun _ _ e => e)
    | lst a b => show ∃ k, TruV K (.bl false) H k ∧ _; walk_at "rd"; exact q H (fun _ _ e => e)
end
end My

set_option Elab.async false
set_option linter.all false
set_option maxRecDepth 100000
set_option maxHeartbeats 1000000
namespace My
open PySem PySem.Spec PyProof.Rows L2
local macro_rules | `(tactic| walk_at "len") => `(tactic| first | assumption | omega | decide | (simp only [List.length_append, List.length_take, List.length_drop, List.length_cons, List.length_nil, List.length_replicate]; omega))
local macro_rules | `(tactic| walk_at "side") => `(tactic| first | assumption | exact Nat.zero_le _ | decide | omega)
local macro_rules | `(tactic| walk_at "rd1") => `(tactic| first
  | with_reducible refine s_seq ?_
  | with_reducible refine x_gsub ?_
  | with_reducible refine s_asg ?_
  | ((with_reducible refine s_gn ?_); dsimp only [List.set])
  | ((with_reducible refine x_var (v := ?rdv) ?rdhv ?_); (case rdhv => rfl))
  | with_reducible refine x_c ?_
  | with_reducible refine x_op ?_
  | with_reducible refine x_cons ?_
  | with_reducible refine x_nil ?_
  | with_reducible refine x_cb ?_
  | with_reducible refine x_call ?_
  | with_reducible refine x_callS ?_
  | with_reducible refine x_revT ?_
  | with_reducible refine x_dget ?_
  | with_reducible refine x_makeS ?_
  | with_reducible refine x_make ?_
  | with_reducible refine x_makeKS ?_
  | with_reducible refine x_methS ?_
  | with_reducible refine x_meth ?_
  | with_reducible refine x_methK ?_
  | with_reducible refine x_fld ?_
  | with_reducible refine s_fld ?_
  | with_reducible refine f_rt ?_
  | with_reducible refine f_zm ?_
  | with_reducible refine c_zm ?_
  | with_reducible refine x_din ?_
  | with_reducible refine x_dnotin ?_
  | with_reducible refine s_dput ?_
  | with_reducible refine x_dnew ?_
  | with_reducible refine s_try ?_
  | with_reducible refine s_raise ?_
  | with_reducible refine s_if ?_
  | with_reducible refine s_ret ?_
  | with_reducible refine s_retN ?_
  | with_reducible refine s_next ?_
  | with_reducible refine s_brk ?_
  | with_reducible refine s_cont ?_
  | with_reducible refine s_drop ?_
  | with_reducible refine s_par ?_
  | with_reducible refine s_par3 ?_
  | ((with_reducible refine s_p2 ?_); dsimp only [List.set])
  | ((with_reducible refine s_p3 ?_); dsimp only [List.set])
  | with_reducible refine f_r1 ?_
  | with_reducible refine f_r2 ?_
  | with_reducible refine f_l ?_
  | with_reducible refine f_t ?_
  | with_reducible refine f_s ?_
  | with_reducible refine c_r1 ?_
  | with_reducible refine c_r2 ?_
  | with_reducible refine c_l ?_
  | with_reducible refine c_t ?_
  | with_reducible refine c_s ?_
  | with_reducible refine x_tst ?_
  | with_reducible refine x_tru ?_
  | with_reducible refine x_truB ?_
  | with_reducible refine x_bl2 ?_
  | with_reducible refine x_int ?_
  | with_reducible refine x_str ?_
  | with_reducible refine x_not ?_
  | with_reducible refine x_and ?_
  | with_reducible refine x_or ?_
  | with_reducible refine x_andV ?_
  | with_reducible refine x_orV ?_
  | with_reducible refine x_notV ?_
  | with_reducible refine x_if ?_
  | with_reducible refine x_yes ?_
  | with_reducible refine x_un ?_
  | with_reducible refine x_tup ?_
  | with_reducible refine x_lst ?_
  | with_reducible refine x_callK ?_
  | with_reducible refine x_callK0 ?_
  | with_reducible refine x_bm ?_
  | with_reducible refine x_bm0 ?_
  | with_reducible refine x_tyS ?_
  | with_reducible refine x_sl ?_
  | with_reducible refine x_nopart ?_
  | with_reducible refine x_part ?_
  | with_reducible refine x_fmt0 ?_
  | with_reducible refine x_gc ?_
  | with_reducible refine x_gz ?_
  | with_reducible refine x_ckw ?_
  | with_reducible refine x_fmt ?_
  | with_reducible refine x_chain ?_
  | with_reducible refine a_ii ?_
  | ((with_reducible refine sl_to ?rda ?rdb ?_); (case rda => walk_at "len"); (case rdb => walk_at "len"))
  | ((with_reducible refine sl_from ?rda ?rdb ?_); (case rda => walk_at "len"); (case rdb => walk_at "len"))
  | ((with_reducible refine sl_mid ?rda ?rdb ?rdc ?_); (case rda => walk_at "len"); (case rdb => walk_at "len"); (case rdc => walk_at "len"))
  | ((with_reducible refine a_SS ?rda ?_); (case rda => walk_at "len"))
  | ((with_reducible refine ln_S ?rda ?_); (case rda => walk_at "len"))
  | with_reducible refine e_SS ?_
  | with_reducible refine ne_SS ?_
  | with_reducible refine s_ii ?_
  | ((with_reducible refine md_ii ?rdc ?_); (case rdc => first | decide | assumption | omega))
  | with_reducible refine n_i ?_
  | with_reducible refine e_ii ?_
  | with_reducible refine e_bb ?_
  | with_reducible refine ne_ii ?_
  | with_reducible refine ne_bb ?_
  | with_reducible refine lt_ii ?_
  | with_reducible refine lt_ss ?_
  | with_reducible refine le_ii ?_
  | with_reducible refine le_ss ?_
  | with_reducible refine gt_ii ?_
  | with_reducible refine gt_ss ?_
  | with_reducible refine ge_ii ?_
  | with_reducible refine e_ss ?_
  | with_reducible refine ne_ss ?_
  | with_reducible refine is_N ?_
  | with_reducible refine is_T ?_
  | with_reducible refine is_B ?_
  | with_reducible refine isn_N ?_
  | with_reducible refine isn_T ?_
  | with_reducible refine isn_B ?_
  | with_reducible refine in_s ?_
  | with_reducible refine nin_s ?_
  | with_reducible refine i_i ?_
  | with_reducible refine i_b ?_
  | with_reducible refine ab_i ?_
  | with_reducible refine mx_ii ?_
  | with_reducible refine mn_ii ?_
  | with_reducible refine ty_N ?_
  | with_reducible refine ty_B ?_
  | with_reducible refine ty_I ?_
  | with_reducible refine ty_S ?_
  | with_reducible refine ma_s ?_
  | with_reducible refine mp_s ?_
  | with_reducible refine mdg_s ?_
  | with_reducible refine mal_s ?_
  | with_reducible refine mlo_s ?_
  | with_reducible refine c_er ?_
  | with_reducible refine c_es ?_
  | with_reducible refine mf_s ?_
  | with_reducible refine iteT ?_
  | with_reducible refine iteF ?_
  | with_reducible refine iteNt ?_
  | with_reducible refine iteNf ?_
  | with_reducible refine iteTd (by decide) ?_
  | with_reducible refine iteFd (by decide) ?_
  | with_reducible refine iteNd (by decide) ?_
  | with_reducible refine iteNdF (by decide) ?_
  | ((with_reducible refine iteFd ?rdn ?_); (case rdn => (intro rdz; cases rdz; done)))
  | ((with_reducible refine iteNdF ?rdn ?_); (case rdn => (intro rdz; cases rdz; done))))
local macro_rules | `(tactic| walk_at "rd") => `(tactic| (repeat walk_at "rd1"))
section
variable {P : Program} {w : World} {K : PySem.W.Frag} {mg : Str → Option Value} {base : Heap}
theorem inV34 (n : Int) : inV (.int n) [.int 3, .int 4] = (decide (n = 3) || decide (n = 4)) := by
  unfold inV
  show (eqV (.int 3) (.int n) || (eqV (.int 4) (.int n) || false)) = _
  rw [Bool.or_false]
  show (decide ((3 : Int) = n) || decide ((4 : Int) = n)) = _
  rw [show decide ((3 : Int) = n) = decide (n = 3) from decide_eq_decide.mpr eq_comm, show decide ((4 : Int) = n) = decide (n = 4) from decide_eq_decide.mpr eq_comm]
theorem nin34 {H : Hp} {Q : VK} {p : Addr} {n : Int} (hp : SqL K H p [.int 3, .int 4]) (q : Q (.bl (!(decide (n = 3) || decide (n = 4)))) H) : rNINU K (.int n) (.ref p) H Q := by
  refine .inr ⟨p, [.int 3, .int 4], rfl, .inl hp, rfl, rfl, ?_⟩
  rw [if_pos rfl, inV34]
  exact q
theorem no_len {a : PyData} {es : List PyData} (h2 : es.length ≠ 2) (h3 : es.length ≠ 3) : noD (.tuple (a :: es)) = false := by
  show (if isW valT a then vlB es else if isW entT a then enB es else false) = false
  have e1 : vlB es = false := by rcases es with _ | ⟨b, _ | ⟨c, _ | ⟨z, r⟩⟩⟩ <;> first | rfl | exact absurd rfl h2
  have e2 : enB es = false := by rcases es with _ | ⟨b, _ | ⟨c, _ | ⟨z, _ | ⟨z2, r⟩⟩⟩⟩ <;> first | rfl | exact absurd rfl h3
  rw [e1, e2]
  cases isW valT a <;> cases isW entT a <;> rfl
theorem no_st {a : PyData} {es : List PyData} (h : isSt a = false) : noD (.tuple (a :: es)) = false := by
  have e : ∀ l, isW l a = false := fun l => by cases a <;> first | rfl | cases h
  show (if isW valT a then vlB es else if isW entT a then enB es else false) = false
  rw [e, e]
  rfl
def sp_lnote (K : PySem.W.Frag) : Sp := fun vs H Q _ => ∃ (x : V) (d : PyData), vs = [x] ∧ Dp K H x d ∧ Gv d ∧ ∀ H', Same H H' → Q (.bl (noD d)) H'
theorem ok_lnote (Y : Fx K mg) : FnOk P w K mg base CX0 4 Y.a__law_is_note Y.fd__law_is_note ["_law_value"] (sp_lnote K) := by
  refine Y.F__law_is_note.ok sc__law_is_note (fun vs H Q E h => ?_) (fun cdv A outer s H vs Q E hr h => ?_)
  · obtain ⟨x, d, rfl, _⟩ := h
    rfl
  · obtain ⟨x, d, rfl, hx, hg, q⟩ := h
    refine ⟨_, b__law_is_note Y (ok_lrows Y) (ok_lis_text Y) hr, ?_⟩
    show t__law_is_note K _ _ _ [some x, none] H
    unfold t__law_is_note
    rw [show ("value" : Str) = S valT from rfl, show ("entries" : Str) = S entT from rfl]
    walk_at "rd"
    refine isi_d hx (kit_tu hx) ?_
    cases hx with
    | @tup a us ds hs ha =>
      have hlen := dpAll_len ha
      show ∃ k, TruV K (.bl true) H k ∧ _
      walk_at "rd"
      refine ln_t hs ?_
      walk_at "rd"
      rw [hlen]
      refine ⟨by show 2 ≤ sizeLine; decide, fun p hp => ?_⟩
      have hS1 := same_upd hp (o := .lst [.int 3, .int 4])
      refine nin34 (lst_of upd_same) ?_
      have no : noD (.tuple ds) = false → ∀ H', Same H H' → Q (.bl false) H' := fun e H' hS => by
        have := q H' hS
        rw [e] at this
        exact this
      by_cases h34 : ds.length = 3 ∨ ds.length = 4
      · have hz : (!(decide ((ds.length : Int) = 3) || decide ((ds.length : Int) = 4))) = false := by
          rcases h34 with h | h <;> rw [h] <;> rfl
        rw [hz]
        cases ha with
        | nil => rcases h34 with h | h <;> cases h
        | @cons u us e0 es h0 ht =>
        have g0 := hg.mem (d := e0) List.mem_cons_self
        walk_at "rd"
        generalize upd H p (.lst [.int 3, .int 4]) = H1 at hS1
        have hs1 := same_sqt hS1 hs
        have h01 := dp_mono hS1 _ _ h0
        have ht1 := dpAll_mono hS1 _ _ ht
        refine ix_T hs1 (at_nat (v := u) (by decide) rfl) ?_
        walk_at "rd"
        refine isi_d h01 (kit_st h01) ?_
        cases est : isSt e0 with
        | false =>
          walk_at "rd"
          exact no (no_st est) H1 hS1
        | true =>
        walk_at "rd"
        refine ix_T hs1 (at_nat (v := u) (by decide) rfl) ?_
        walk_at "rd"
        refine e_d h01 (.str _) g0.shaped (sh_lit _ (by decide)) ?_
        rw [eqv_W]
        have q2 : ∀ H', Same H H' → Q (.bl (if isW valT e0 then vlB es else if isW entT e0 then enB es else false)) H' := q
        have hl : (e0 :: es).length = es.length + 1 := rfl
        -- the second half: entries
        have rest : ∀ n b k : L2.St → Hp → Prop, (isW valT e0 = true → es.length = 3) → (tSeq (tIfS (tOr (tTest (tOp (rNE K) (tOp (rIX K) (tVar 0) (tC (.int 0))) (tC (.str (S entT))))) (tOr (tTest (tOp (rNE K) (tCB (rLEN K) (tCons (tVar 0) tNil)) (tC (.int 4)))) (tNot (tTru1 K (tCall (sp_lrows K) [] E0 (tCons (tOp (rIX K) (tVar 0) (tC (.int 3))) (tCons (tC (.bl false)) tNil))))))) (tRet (tC (.bl false))) tNext)
          (tRet (tCB (rAll K) (tCons (tLc (iTup K (tSl (rSL K) (tVar 0) (tPart (tC (.int 1))) (tPart (tC (.int 3))))) (gName 1) tYes (tOrV (tOp (rIS K) (tVar 1) (tC .non)) (tCall (sp_lis_text K) [] E0 (tCons (tVar 1) tNil))) [1]) tNil)))) ⟨n, Q, b, k⟩ [some (.ref a), none] H1 := by
          intro n b k hv
          walk_at "rd"
          refine ix_T hs1 (at_nat (v := u) (by decide) rfl) ?_
          walk_at "rd"
          refine ne_d h01 (.str _) g0.shaped (sh_lit _ (by decide)) ?_
          rw [eqv_W]
          cases ee : isW entT e0 with
          | false =>
            walk_at "rd"
            refine no ?_ H1 hS1
            show (if isW valT e0 then vlB es else if isW entT e0 then enB es else false) = false
            rw [ee]
            cases ev : isW valT e0 with
            | false => rfl
            | true =>
              have := hv ev
              rcases es with _ | ⟨b, _ | ⟨c, _ | ⟨z, r⟩⟩⟩
              · cases this
              · cases this
              · cases this
              · rfl
          | true =>
            have evf : isW valT e0 = false := by
              cases e0 with
              | str z =>
                have h5 : z.cps.toList = entT := of_decide_eq_true ee
                show decide (z.cps.toList = valT) = false
                rw [h5]
                decide
              | _ => rfl
            have q4 : ∀ H', Same H H' → Q (.bl (enB es)) H' := fun H' hS => by
              have := q2 H' hS
              rw [evf, ee] at this
              exact this
            walk_at "rd"
            refine ln_t hs1 ?_
            walk_at "rd"
            rw [hlen, hl]
            by_cases e7 : es.length = 3
            · refine iteNd (by omega) ?_
              rcases es with _ | ⟨b0, _ | ⟨c0, _ | ⟨z0, _ | ⟨z2, r⟩⟩⟩⟩
              · simp at e7
              · simp at e7
              · simp at e7
              · cases ht1 with
                | @cons v1 _ _ _ h1 ht1 =>
                cases ht1 with
                | @cons v2 _ _ _ h2 ht1 =>
                cases ht1 with
                | @cons v3 _ _ _ h3 ht1 =>
                cases ht1
                have q5 : ∀ H', Same H H' → Q (.bl (bdD b0 && (bdD c0 && isEntD z0))) H' := q4
                have gb := hg.mem (d := b0) (by simp)
                have gc := hg.mem (d := c0) (by simp)
                have gz := hg.mem (d := z0) (by simp)
                walk_at "rd"
                refine ix_T hs1 (by rfl) ?_
                walk_at "rd"
                refine ⟨v3, z0, false, rfl, h3, gz, fun H2 hS2 => ?_⟩
                rw [ar_ent]
                have hS12 := hS1.trans hS2
                walk_at "rd"
                cases e8 : isEntD z0 with
                | false =>
                  rw [e8, Bool.and_false, Bool.and_false] at q5
                  walk_at "rd"
                  exact q5 H2 hS12
                | true =>
                  rw [e8, Bool.and_true] at q5
                  walk_at "rd"
                  refine sl_T (same_sqt hS2 hs1) fun p2 H3 hS3 hp2 => ?_
                  rw [show cutV [u, v1, v2, v3] (some 1) (some 3) = [v1, v2] from cutV_mid [u, v1, v2, v3] 1 3] at hp2
                  have hS13 := hS12.trans hS3
                  have bits : ∀ (i : Nat) (x : V), [v1, v2][i]? = some x → ∃ d : PyData, [b0, c0][i]? = some d ∧ Dp K H3 x d ∧ Gv d := fun i x hx => by
                    match i, hx with
                    | 0, hx => cases hx; exact ⟨b0, rfl, dp_mono (hS2.trans hS3) _ _ h1, gb⟩
                    | 1, hx => cases hx; exact ⟨c0, rfl, dp_mono (hS2.trans hS3) _ _ h2, gc⟩
                  refine lcT_mk hp2 (fun D i H' => Same H3 H' ∧ H' D = some (.lst (([b0, c0].take i).map fun d => V.bl (bdD d)))) (fun D hD => ⟨same_upd hD, upd_same⟩) (fun D i H' hD _ hP => same_sqt hP.1 hp2) (fun D i x H' hD hx hP => ?_) (fun D H' hD hP => ?_)
                  · obtain ⟨hS, hk⟩ := hP
                    obtain ⟨d, hd, dd, gd⟩ := bits i x hx
                    refine ⟨rfl, ?_⟩
                    walk_at "rd"
                    rw [non_d dd]
                    have fin : ∀ H4, Same H' H4 → ∃ acc, H4 D = some (.lst acc) ∧ acc.length < sizeLine ∧ (Same H3 (upd H4 D (.lst (acc ++ [.bl (bdD d)]))) ∧ (upd H4 D (.lst (acc ++ [.bl (bdD d)]))) D = some (.lst (([b0, c0].take (i + 1)).map fun d => V.bl (bdD d)))) := fun H4 hS4 => by
                      refine ⟨_, hS4 _ _ hk, ?_, same_mut (hS.trans hS4) hD, ?_⟩
                      · rw [List.length_map, List.length_take]
                        exact Nat.lt_of_le_of_lt (show min i 2 ≤ 2 by omega) (by decide)
                      · rw [upd_same, bv_snoc hd]
                    have eb : bdD d = (isNo d || isTxD d) := rfl
                    cases e9 : isNo d with
                    | true =>
                      rw [e9, Bool.true_or] at eb
                      rw [eb] at fin
                      walk_at "rd"
                      exact fin H' (fun _ _ e => e)
                    | false =>
                      rw [e9, Bool.false_or] at eb
                      rw [eb] at fin
                      walk_at "rd"
                      exact ⟨x, d, rfl, dp_mono hS _ _ dd, gd, fin⟩
                  · obtain ⟨hS, hk⟩ := hP
                    have hk2 : H' D = some (.lst ([bdD b0, bdD c0].map V.bl)) := hk
                    walk_at "rd"
                    refine al_b (lst_of hk2) ?_
                    have := q5 H' (hS13.trans hS)
                    show Q (.bl (bdD b0 && (bdD c0 && true))) H'
                    rw [Bool.and_true]
                    exact this
              · simp at e7
            · refine iteNdF (by omega) ?_
              walk_at "rd"
              refine no ?_ H1 hS1
              show (if isW valT e0 then vlB es else if isW entT e0 then enB es else false) = false
              rw [evf, ee]
              show enB es = false
              rcases es with _ | ⟨b, _ | ⟨c, _ | ⟨z, _ | ⟨z2, r⟩⟩⟩⟩ <;> first | rfl | exact absurd rfl e7
        cases ev : isW valT e0 with
        | false =>
          refine x_bl2 ?_
          refine iteF ?_
          refine iteF ?_
          refine s_next ?_
          exact rest _ _ _ (fun z => by rw [ev] at z; cases z)
        | true =>
          rw [ev] at q2
          walk_at "rd"
          refine ln_t hs1 ?_
          walk_at "rd"
          rw [hlen, hl]
          by_cases e3 : es.length = 2
          · refine iteTd (by omega) ?_
            rcases es with _ | ⟨b0, _ | ⟨c0, _ | ⟨z, r⟩⟩⟩
            · simp at e3
            · simp at e3
            · cases ht1 with
              | @cons v1 _ _ _ h1 ht1 =>
              cases ht1 with
              | @cons v2 _ _ _ h2 ht1 =>
              cases ht1
              have q3 : ∀ H', Same H H' → Q (.bl (isTxD b0 && (isNo c0 || isTxD c0))) H' := q2
              walk_at "rd"
              refine ix_T hs1 (by rfl) ?_
              walk_at "rd"
              refine ⟨v1, b0, rfl, h1, hg.mem (by simp), fun H2 hS2 => ?_⟩
              walk_at "rd"
              cases e5 : isTxD b0 with
              | false =>
                rw [e5] at q3
                walk_at "rd"
                exact q3 H2 (hS1.trans hS2)
              | true =>
                rw [e5, Bool.true_and] at q3
                walk_at "rd"
                refine ix_T (same_sqt hS2 hs1) (by rfl) ?_
                walk_at "rd"
                rw [non_d h2]
                cases e6 : isNo c0 with
                | true =>
                  rw [e6] at q3
                  walk_at "rd"
                  exact q3 H2 (hS1.trans hS2)
                | false =>
                  rw [e6, Bool.false_or] at q3
                  walk_at "rd"
                  refine ix_T (same_sqt hS2 hs1) (by rfl) ?_
                  walk_at "rd"
                  exact ⟨v2, c0, rfl, dp_mono hS2 _ _ h2, hg.mem (by simp), fun H3 hS3 => q3 H3 ((hS1.trans hS2).trans hS3)⟩
            · simp at e3
          · refine iteFd (by omega) ?_
            refine s_next ?_
            exact rest _ _ _ (fun _ => by
              rcases h34 with h | h
              · exact absurd (Nat.succ.inj h) e3
              · exact Nat.succ.inj h)
      · have hz : (!(decide ((ds.length : Int) = 3) || decide ((ds.length : Int) = 4))) = true := by
          rw [decide_eq_false (by omega), decide_eq_false (by omega)]
          rfl
        rw [hz]
        walk_at "rd"
        refine no ?_ _ hS1
        cases ds with
        | nil => rfl
        | cons a r => exact no_len (fun z => h34 (.inl (congrArg Nat.succ z))) (fun z => h34 (.inr (congrArg Nat.succ z)))
    | non => show ∃ k, TruV K (.bl false) H k ∧ _; walk_at "rd"; exact q H (fun _ _ e => e)
    | bl b => show ∃ k, TruV K (.bl false) H k ∧ _; walk_at "rd"; exact q H (fun _ _ e => e)
    | int i => show ∃ k, TruV K (.bl false) H k ∧ _; walk_at "rd"; exact q H (fun _ _ e => e)
    | str z => show ∃ k, TruV K (.bl false) H k ∧ _; walk_at "rd"; exact q H (fun _ _ e => e)
    | lst a b => show ∃ k, TruV K (.bl false) H k ∧ _; walk_at "rd"; exact q H (fun _ _ e => e)
end
end My

set_option Elab.async false
set_option linter.all false
set_option maxRecDepth 100000
set_option maxHeartbeats 1000000
namespace My
open PySem PySem.Spec PyProof.Rows L2
local macro_rules | `(tactic| walk_at "len") => `(tactic| first | assumption | omega | decide | (simp only [List.length_append, List.length_take, List.length_drop, List.length_cons, List.length_nil, List.length_replicate]; omega))
local macro_rules | `(tactic| walk_at "side") => `(tactic| first | assumption | exact Nat.zero_le _ | decide | omega)
local macro_rules | `(tactic| walk_at "rd1") => `(tactic| first
  | with_reducible refine s_seq ?_
  | with_reducible refine x_gsub ?_
  | with_reducible refine s_asg ?_
  | ((with_reducible refine s_gn ?_); dsimp only [List.set])
  | ((with_reducible refine x_var (v := ?rdv) ?rdhv ?_); (case rdhv => rfl))
  | with_reducible refine x_c ?_
  | with_reducible refine x_op ?_
  | with_reducible refine x_cons ?_
  | with_reducible refine x_nil ?_
  | with_reducible refine x_cb ?_
  | with_reducible refine x_call ?_
  | with_reducible refine x_callS ?_
  | with_reducible refine x_revT ?_
  | with_reducible refine x_dget ?_
  | with_reducible refine x_makeS ?_
  | with_reducible refine x_make ?_
  | with_reducible refine x_makeKS ?_
  | with_reducible refine x_methS ?_
  | with_reducible refine x_meth ?_
  | with_reducible refine x_methK ?_
  | with_reducible refine x_fld ?_
  | with_reducible refine s_fld ?_
  | with_reducible refine f_rt ?_
  | with_reducible refine f_zm ?_
  | with_reducible refine c_zm ?_
  | with_reducible refine x_din ?_
  | with_reducible refine x_dnotin ?_
  | with_reducible refine s_dput ?_
  | with_reducible refine x_dnew ?_
  | with_reducible refine s_try ?_
  | with_reducible refine s_raise ?_
  | with_reducible refine s_if ?_
  | with_reducible refine s_ret ?_
  | with_reducible refine s_retN ?_
  | with_reducible refine s_next ?_
  | with_reducible refine s_brk ?_
  | with_reducible refine s_cont ?_
  | with_reducible refine s_drop ?_
  | with_reducible refine s_par ?_
  | with_reducible refine s_par3 ?_
  | ((with_reducible refine s_p2 ?_); dsimp only [List.set])
  | ((with_reducible refine s_p3 ?_); dsimp only [List.set])
  | with_reducible refine f_r1 ?_
  | with_reducible refine f_r2 ?_
  | with_reducible refine f_l ?_
  | with_reducible refine f_t ?_
  | with_reducible refine f_s ?_
  | with_reducible refine c_r1 ?_
  | with_reducible refine c_r2 ?_
  | with_reducible refine c_l ?_
  | with_reducible refine c_t ?_
  | with_reducible refine c_s ?_
  | with_reducible refine x_tst ?_
  | with_reducible refine x_tru ?_
  | with_reducible refine x_truB ?_
  | with_reducible refine x_bl2 ?_
  | with_reducible refine x_int ?_
  | with_reducible refine x_str ?_
  | with_reducible refine x_not ?_
  | with_reducible refine x_and ?_
  | with_reducible refine x_or ?_
  | with_reducible refine x_andV ?_
  | with_reducible refine x_orV ?_
  | with_reducible refine x_notV ?_
  | with_reducible refine x_if ?_
  | with_reducible refine x_yes ?_
  | with_reducible refine x_un ?_
  | with_reducible refine x_tup ?_
  | with_reducible refine x_lst ?_
  | with_reducible refine x_callK ?_
  | with_reducible refine x_callK0 ?_
  | with_reducible refine x_bm ?_
  | with_reducible refine x_bm0 ?_
  | with_reducible refine x_tyS ?_
  | with_reducible refine x_sl ?_
  | with_reducible refine x_nopart ?_
  | with_reducible refine x_part ?_
  | with_reducible refine x_fmt0 ?_
  | with_reducible refine x_gc ?_
  | with_reducible refine x_gz ?_
  | with_reducible refine x_ckw ?_
  | with_reducible refine x_fmt ?_
  | with_reducible refine x_chain ?_
  | with_reducible refine a_ii ?_
  | ((with_reducible refine sl_to ?rda ?rdb ?_); (case rda => walk_at "len"); (case rdb => walk_at "len"))
  | ((with_reducible refine sl_from ?rda ?rdb ?_); (case rda => walk_at "len"); (case rdb => walk_at "len"))
  | ((with_reducible refine sl_mid ?rda ?rdb ?rdc ?_); (case rda => walk_at "len"); (case rdb => walk_at "len"); (case rdc => walk_at "len"))
  | ((with_reducible refine a_SS ?rda ?_); (case rda => walk_at "len"))
  | ((with_reducible refine ln_S ?rda ?_); (case rda => walk_at "len"))
  | with_reducible refine e_SS ?_
  | with_reducible refine ne_SS ?_
  | with_reducible refine s_ii ?_
  | ((with_reducible refine md_ii ?rdc ?_); (case rdc => first | decide | assumption | omega))
  | with_reducible refine n_i ?_
  | with_reducible refine e_ii ?_
  | with_reducible refine e_bb ?_
  | with_reducible refine ne_ii ?_
  | with_reducible refine ne_bb ?_
  | with_reducible refine lt_ii ?_
  | with_reducible refine lt_ss ?_
  | with_reducible refine le_ii ?_
  | with_reducible refine le_ss ?_
  | with_reducible refine gt_ii ?_
  | with_reducible refine gt_ss ?_
  | with_reducible refine ge_ii ?_
  | with_reducible refine e_ss ?_
  | with_reducible refine ne_ss ?_
  | with_reducible refine is_N ?_
  | with_reducible refine is_T ?_
  | with_reducible refine is_B ?_
  | with_reducible refine isn_N ?_
  | with_reducible refine isn_T ?_
  | with_reducible refine isn_B ?_
  | with_reducible refine in_s ?_
  | with_reducible refine nin_s ?_
  | with_reducible refine i_i ?_
  | with_reducible refine i_b ?_
  | with_reducible refine ab_i ?_
  | with_reducible refine mx_ii ?_
  | with_reducible refine mn_ii ?_
  | with_reducible refine ty_N ?_
  | with_reducible refine ty_B ?_
  | with_reducible refine ty_I ?_
  | with_reducible refine ty_S ?_
  | with_reducible refine ma_s ?_
  | with_reducible refine mp_s ?_
  | with_reducible refine mdg_s ?_
  | with_reducible refine mal_s ?_
  | with_reducible refine mlo_s ?_
  | with_reducible refine c_er ?_
  | with_reducible refine c_es ?_
  | with_reducible refine mf_s ?_
  | with_reducible refine iteT ?_
  | with_reducible refine iteF ?_
  | with_reducible refine iteNt ?_
  | with_reducible refine iteNf ?_
  | with_reducible refine iteTd (by decide) ?_
  | with_reducible refine iteFd (by decide) ?_
  | with_reducible refine iteNd (by decide) ?_
  | with_reducible refine iteNdF (by decide) ?_
  | ((with_reducible refine iteFd ?rdn ?_); (case rdn => (intro rdz; cases rdz; done)))
  | ((with_reducible refine iteNdF ?rdn ?_); (case rdn => (intro rdz; cases rdz; done))))
local macro_rules | `(tactic| walk_at "rd") => `(tactic| (repeat walk_at "rd1"))
section
variable {P : Program} {w : World} {K : PySem.W.Frag} {mg : Str → Option Value} {base : Heap}
def sp_lcommit (K : PySem.W.Frag) : Sp := fun vs H Q _ => ∃ (n : Int) (x : V) (d : PyData), vs = [x, .int n] ∧ Dp K H x d ∧ Gv d ∧ ∀ H', Same H H' → Q (.bl (coD n d)) H'
theorem ok_lcommit (Y : Fx K mg) : FnOk P w K mg base CX0 5 Y.a__law_is_commit Y.fd__law_is_commit ["_law_value", "_law_number"] (sp_lcommit K) := by
  refine Y.F__law_is_commit.ok sc__law_is_commit (fun vs H Q E h => ?_) (fun cdv A outer s H vs Q E hr h => ?_)
  · obtain ⟨n, x, d, rfl, _⟩ := h
    rfl
  · obtain ⟨n, x, d, rfl, hx, hg, q⟩ := h
    refine ⟨_, b__law_is_commit Y (ok_lrows Y) (ok_lnote Y) hr, ?_⟩
    show t__law_is_commit K _ _ _ [some x, some (.int n), none] H
    unfold t__law_is_commit
    walk_at "rd"
    refine isi_d hx (kit_tu hx) ?_
    cases hx with
    | @tup a us ds hs ha =>
      have hlen := dpAll_len ha
      show ∃ k, TruV K (.bl true) H k ∧ _
      walk_at "rd"
      refine ln_t hs ?_
      walk_at "rd"
      rw [hlen]
      by_cases h4 : ds.length = 4
      · obtain ⟨a0, b0, c0, e0, rfl⟩ : ∃ a b c e, ds = [a, b, c, e] := by
          rcases ds with _ | ⟨a, _ | ⟨b, _ | ⟨c, _ | ⟨e, _ | ⟨f, r⟩⟩⟩⟩⟩
          · cases h4
          · cases h4
          · cases h4
          · cases h4
          · exact ⟨a, b, c, e, rfl⟩
          · simp at h4
        cases ha with
        | @cons v1 _ _ _ h1 ha =>
        cases ha with
        | @cons v2 _ _ _ h2 ha =>
        cases ha with
        | @cons v3 _ _ _ h3 ha =>
        cases ha with
        | @cons v4 _ _ _ h5 ha =>
        cases ha
        have q1 : ∀ H', Same H H' → Q (.bl (isNumD 0 (n - 1) a0 && (isBo b0 && (isTu c0 && ((elD c0).all noD && isChsD e0))))) H' := q
        have no : (isNumD 0 (n - 1) a0 && (isBo b0 && (isTu c0 && ((elD c0).all noD && isChsD e0)))) = false → ∀ H', Same H H' → Q (.bl false) H' := fun e H' hS => by
          have := q1 H' hS
          rw [e] at this
          exact this
        refine iteNd rfl ?_
        walk_at "rd"
        refine ix_T hs (by rfl) ?_
        walk_at "rd"
        refine isi_d h2 (kit_bo h2) ?_
        cases e2 : isBo b0 with
        | false =>
          walk_at "rd"
          exact no (by rw [e2, Bool.false_and, Bool.and_false]) H (fun _ _ e => e)
        | true =>
        rw [e2, Bool.true_and] at q1 no
        walk_at "rd"
        refine ix_T hs (by rfl) ?_
        walk_at "rd"
        refine isi_d h1 (kit_in h1) ?_
        cases ei : isIn a0 with
        | false =>
          have e1 : isNumD 0 (n - 1) a0 = false := by cases a0 <;> first | rfl | cases ei
          walk_at "rd"
          exact no (by rw [e1]; rfl) H (fun _ _ e => e)
        | true =>
        walk_at "rd"
        refine ix_T hs (by rfl) ?_
        walk_at "rd"
        refine isi_d h1 (kit_bo h1) ?_
        cases eb : isBo a0 with
        | true =>
          have e1 : isNumD 0 (n - 1) a0 = false := by cases a0 <;> first | rfl | cases eb
          walk_at "rd"
          exact no (by rw [e1]; rfl) H (fun _ _ e => e)
        | false =>
        obtain ⟨z, rfl⟩ : ∃ z, a0 = .int z := by
          cases a0 with
          | int z => exact ⟨z, rfl⟩
          | bool b => cases eb
          | _ => cases ei
        obtain rfl := dp_int' h1
        have en : isNumD 0 (n - 1) (.int z) = (decide (0 ≤ z) && decide (z ≤ n - 1)) := rfl
        walk_at "rd"
        refine ix_T hs (by rfl) ?_
        walk_at "rd"
        refine ite2' (fun e3 => ?_) (fun e3 => ?_)
        · have e4 := of_decide_eq_true e3
          walk_at "rd"
          exact no (by rw [en, decide_eq_false (by omega)]; rfl) H (fun _ _ e => e)
        have e4 := of_decide_eq_false e3
        walk_at "rd"
        refine ix_T hs (by rfl) ?_
        walk_at "rd"
        refine ite2' (fun e5 => ?_) (fun e5 => ?_)
        · have e6 := of_decide_eq_true e5
          walk_at "rd"
          exact no (by rw [en, decide_eq_false (show ¬ z ≤ n - 1 by omega), Bool.and_false]; rfl) H (fun _ _ e => e)
        have e6 := of_decide_eq_false e5
        rw [en, decide_eq_true (show 0 ≤ z by omega), decide_eq_true (show z ≤ n - 1 by omega)] at q1 no
        have q2 : ∀ H', Same H H' → Q (.bl (isTu c0 && ((elD c0).all noD && isChsD e0))) H' := q1
        have no2 : (isTu c0 && ((elD c0).all noD && isChsD e0)) = false → ∀ H', Same H H' → Q (.bl false) H' := no
        walk_at "rd"
        refine ix_T hs (by rfl) ?_
        walk_at "rd"
        refine isi_d h3 (kit_tu h3) ?_
        cases ec : isTu c0 with
        | false =>
          walk_at "rd"
          exact no2 (by rw [ec]; rfl) H (fun _ _ e => e)
        | true =>
        rw [ec, Bool.true_and] at q2 no2
        have gc := hg.mem (d := c0) (by simp)
        have ge := hg.mem (d := e0) (by simp)
        have hc := tu_el ec
        generalize elD c0 = ns at hc q2 no2
        subst hc
        obtain ⟨pn, un, rfl, hns, hna⟩ := dp_tup' h3
        have hnl := dpAll_len hna
        walk_at "rd"
        refine ix_T hs (by rfl) ?_
        refine lcT_mk hns (fun D i H' => Same H H' ∧ H' D = some (.lst ((ns.take i).map fun d => V.bl (noD d)))) (fun D hD => ⟨same_upd hD, upd_same⟩) (fun D i H' hD _ hP => same_sqt hP.1 hns) (fun D i x H' hD hx hP => ?_) (fun D H' hD hP => ?_)
        · obtain ⟨hS, hk⟩ := hP
          have hin : i < ns.length := by rw [← hnl]; exact (List.getElem?_eq_some_iff.mp hx).1
          obtain ⟨v, ev, dv⟩ := dpAll_get hna hin
          rw [hx] at ev
          cases ev
          refine ⟨rfl, ?_⟩
          walk_at "rd"
          refine ⟨x, ns[i], rfl, dp_mono hS _ _ dv, gc.mem (List.getElem_mem hin), fun H2 hS2 => ?_⟩
          refine ⟨_, hS2 _ _ hk, ?_, same_mut (hS.trans hS2) hD, ?_⟩
          · rw [List.length_map, List.length_take]
            have := gc.len
            exact Nat.lt_of_le_of_lt (show min i _ ≤ 250000 by omega) (by decide)
          · rw [upd_same, bv_snoc (List.getElem?_eq_getElem hin)]
        · obtain ⟨hS, hk⟩ := hP
          rw [hnl, List.take_length] at hk
          walk_at "rd"
          refine al_b (bs := ns.map noD) (lst_of (by rw [hk, List.map_map]; rfl)) ?_
          rw [show (ns.map noD).all id = ns.all noD by rw [List.all_map]; rfl]
          walk_at "rd"
          cases ea : ns.all noD with
          | false =>
            walk_at "rd"
            exact no2 (by rw [ea]; rfl) H' hS
          | true =>
            rw [ea, Bool.true_and] at q2
            walk_at "rd"
            refine ix_T (same_sqt hS hs) (by rfl) ?_
            walk_at "rd"
            exact ⟨v4, e0, true, rfl, dp_mono hS _ _ h5, ge, fun H2 hS2 => by rw [ar_chs]; exact q2 H2 (hS.trans hS2)⟩
      · refine iteNdF (by omega) ?_
        walk_at "rd"
        have q1 := q H (fun _ _ e => e)
        rw [co_len h4] at q1
        exact q1
    | non => show ∃ k, TruV K (.bl false) H k ∧ _; walk_at "rd"; exact q H (fun _ _ e => e)
    | bl b => show ∃ k, TruV K (.bl false) H k ∧ _; walk_at "rd"; exact q H (fun _ _ e => e)
    | int i => show ∃ k, TruV K (.bl false) H k ∧ _; walk_at "rd"; exact q H (fun _ _ e => e)
    | str z => show ∃ k, TruV K (.bl false) H k ∧ _; walk_at "rd"; exact q H (fun _ _ e => e)
    | lst a b => show ∃ k, TruV K (.bl false) H k ∧ _; walk_at "rd"; exact q H (fun _ _ e => e)
def sp_lhistory (K : PySem.W.Frag) : Sp := fun vs H Q _ => ∃ (x : V) (d : PyData), vs = [x] ∧ Dp K H x d ∧ Gv d ∧ ∀ H', Same H H' → Q (.bl (hiD d)) H'
theorem ok_lhistory (Y : Fx K mg) : FnOk P w K mg base CX0 6 Y.a__law_is_history Y.fd__law_is_history ["_law_value"] (sp_lhistory K) := by
  refine Y.F__law_is_history.ok sc__law_is_history (fun vs H Q E h => ?_) (fun cdv A outer s H vs Q E hr h => ?_)
  · obtain ⟨x, d, rfl, _⟩ := h
    rfl
  · obtain ⟨x, d, rfl, hx, hg, q⟩ := h
    refine ⟨_, b__law_is_history Y (ok_lcommit Y) hr, ?_⟩
    show t__law_is_history K _ _ [some x, none] H
    unfold t__law_is_history
    walk_at "rd"
    refine isi_d hx (kit_tu hx) ?_
    cases hx with
    | @tup a us ds hs ha =>
      have hlen := dpAll_len ha
      have hgl := hg.len
      have q1 : ∀ H', Same H H' → Q (.bl ((List.range ds.length).all fun i => coD (((i : Nat) : Int) + 1) (ds.getD i .none))) H' := q
      show ∃ c, V.bl true = .bl c ∧ _
      walk_at "rd"
      refine ln_t hs ?_
      walk_at "rd"
      rw [hlen]
      refine lcR1_mk (by omega) (by omega) (fun D i H' => Same H H' ∧ H' D = some (.lst (((List.range ds.length).take i).map fun i => V.bl (coD (((i : Nat) : Int) + 1) (ds.getD i .none))))) (fun D hD => ⟨same_upd hD, upd_same⟩) (fun D i H' hD hi hP => ?_) (fun D H' hD hP => ?_)
      · obtain ⟨hS, hk⟩ := hP
        rw [Int.toNat_natCast] at hi
        obtain ⟨v, ev, dv⟩ := dpAll_get ha hi
        refine ⟨rfl, ?_⟩
        walk_at "rd"
        refine ix_T (same_sqt hS hs) (at_nat (by omega) (by rw [Int.toNat_natCast]; exact ev)) ?_
        walk_at "rd"
        refine ⟨_, v, ds[i], rfl, dp_mono hS _ _ dv, hg.mem (List.getElem_mem hi), fun H3 hS3 => ?_⟩
        refine ⟨_, hS3 _ _ hk, ?_, same_mut (hS.trans hS3) hD, ?_⟩
        · rw [List.length_map, List.length_take]
          exact Nat.lt_of_le_of_lt (show min i _ ≤ 250000 by omega) (by decide)
        · rw [upd_same, range_snoc hi, List.getD_eq_getElem?_getD, List.getElem?_eq_getElem hi]
          rfl
      · obtain ⟨hS, hk⟩ := hP
        rw [Int.toNat_natCast, List.take_of_length_le (by rw [List.length_range]; exact Nat.le_refl _)] at hk
        walk_at "rd"
        refine al_b (bs := (List.range ds.length).map fun i => coD (((i : Nat) : Int) + 1) (ds.getD i .none)) (lst_of (by rw [hk, List.map_map]; rfl)) ?_
        rw [all_range]
        exact q1 H' hS
    | non => show ∃ c, V.bl false = .bl c ∧ _; walk_at "rd"; exact q H (fun _ _ e => e)
    | bl b => show ∃ c, V.bl false = .bl c ∧ _; walk_at "rd"; exact q H (fun _ _ e => e)
    | int i => show ∃ c, V.bl false = .bl c ∧ _; walk_at "rd"; exact q H (fun _ _ e => e)
    | str z => show ∃ c, V.bl false = .bl c ∧ _; walk_at "rd"; exact q H (fun _ _ e => e)
    | lst a b => show ∃ c, V.bl false = .bl c ∧ _; walk_at "rd"; exact q H (fun _ _ e => e)
end
end My

set_option Elab.async false
set_option linter.all false
set_option maxRecDepth 100000
set_option maxHeartbeats 1000000
namespace My
open PySem PySem.Spec PyProof.Rows L2
local macro_rules | `(tactic| walk_at "len") => `(tactic| first | assumption | omega | decide | (simp only [List.length_append, List.length_take, List.length_drop, List.length_cons, List.length_nil, List.length_replicate]; omega))
local macro_rules | `(tactic| walk_at "side") => `(tactic| first | assumption | exact Nat.zero_le _ | decide | omega)
local macro_rules | `(tactic| walk_at "rd1") => `(tactic| first
  | with_reducible refine s_seq ?_
  | with_reducible refine x_gsub ?_
  | with_reducible refine s_asg ?_
  | ((with_reducible refine s_gn ?_); dsimp only [List.set])
  | ((with_reducible refine x_var (v := ?rdv) ?rdhv ?_); (case rdhv => rfl))
  | with_reducible refine x_c ?_
  | with_reducible refine x_op ?_
  | with_reducible refine x_cons ?_
  | with_reducible refine x_nil ?_
  | with_reducible refine x_cb ?_
  | with_reducible refine x_call ?_
  | with_reducible refine x_callS ?_
  | with_reducible refine x_revT ?_
  | with_reducible refine x_dget ?_
  | with_reducible refine x_makeS ?_
  | with_reducible refine x_make ?_
  | with_reducible refine x_makeKS ?_
  | with_reducible refine x_methS ?_
  | with_reducible refine x_meth ?_
  | with_reducible refine x_methK ?_
  | with_reducible refine x_fld ?_
  | with_reducible refine s_fld ?_
  | with_reducible refine f_rt ?_
  | with_reducible refine f_zm ?_
  | with_reducible refine c_zm ?_
  | with_reducible refine x_din ?_
  | with_reducible refine x_dnotin ?_
  | with_reducible refine s_dput ?_
  | with_reducible refine x_dnew ?_
  | with_reducible refine s_try ?_
  | with_reducible refine s_raise ?_
  | with_reducible refine s_if ?_
  | with_reducible refine s_ret ?_
  | with_reducible refine s_retN ?_
  | with_reducible refine s_next ?_
  | with_reducible refine s_brk ?_
  | with_reducible refine s_cont ?_
  | with_reducible refine s_drop ?_
  | with_reducible refine s_par ?_
  | with_reducible refine s_par3 ?_
  | ((with_reducible refine s_p2 ?_); dsimp only [List.set])
  | ((with_reducible refine s_p3 ?_); dsimp only [List.set])
  | with_reducible refine f_r1 ?_
  | with_reducible refine f_r2 ?_
  | with_reducible refine f_l ?_
  | with_reducible refine f_t ?_
  | with_reducible refine f_s ?_
  | with_reducible refine c_r1 ?_
  | with_reducible refine c_r2 ?_
  | with_reducible refine c_l ?_
  | with_reducible refine c_t ?_
  | with_reducible refine c_s ?_
  | with_reducible refine x_tst ?_
  | with_reducible refine x_tru ?_
  | with_reducible refine x_truB ?_
  | with_reducible refine x_bl2 ?_
  | with_reducible refine x_int ?_
  | with_reducible refine x_str ?_
  | with_reducible refine x_not ?_
  | with_reducible refine x_and ?_
  | with_reducible refine x_or ?_
  | with_reducible refine x_andV ?_
  | with_reducible refine x_orV ?_
  | with_reducible refine x_notV ?_
  | with_reducible refine x_if ?_
  | with_reducible refine x_yes ?_
  | with_reducible refine x_un ?_
  | with_reducible refine x_tup ?_
  | with_reducible refine x_lst ?_
  | with_reducible refine x_callK ?_
  | with_reducible refine x_callK0 ?_
  | with_reducible refine x_bm ?_
  | with_reducible refine x_bm0 ?_
  | with_reducible refine x_tyS ?_
  | with_reducible refine x_sl ?_
  | with_reducible refine x_nopart ?_
  | with_reducible refine x_part ?_
  | with_reducible refine x_fmt0 ?_
  | with_reducible refine x_gc ?_
  | with_reducible refine x_gz ?_
  | with_reducible refine x_ckw ?_
  | with_reducible refine x_fmt ?_
  | with_reducible refine x_chain ?_
  | with_reducible refine a_ii ?_
  | ((with_reducible refine sl_to ?rda ?rdb ?_); (case rda => walk_at "len"); (case rdb => walk_at "len"))
  | ((with_reducible refine sl_from ?rda ?rdb ?_); (case rda => walk_at "len"); (case rdb => walk_at "len"))
  | ((with_reducible refine sl_mid ?rda ?rdb ?rdc ?_); (case rda => walk_at "len"); (case rdb => walk_at "len"); (case rdc => walk_at "len"))
  | ((with_reducible refine a_SS ?rda ?_); (case rda => walk_at "len"))
  | ((with_reducible refine ln_S ?rda ?_); (case rda => walk_at "len"))
  | with_reducible refine e_SS ?_
  | with_reducible refine ne_SS ?_
  | with_reducible refine s_ii ?_
  | ((with_reducible refine md_ii ?rdc ?_); (case rdc => first | decide | assumption | omega))
  | with_reducible refine n_i ?_
  | with_reducible refine e_ii ?_
  | with_reducible refine e_bb ?_
  | with_reducible refine ne_ii ?_
  | with_reducible refine ne_bb ?_
  | with_reducible refine lt_ii ?_
  | with_reducible refine lt_ss ?_
  | with_reducible refine le_ii ?_
  | with_reducible refine le_ss ?_
  | with_reducible refine gt_ii ?_
  | with_reducible refine gt_ss ?_
  | with_reducible refine ge_ii ?_
  | with_reducible refine e_ss ?_
  | with_reducible refine ne_ss ?_
  | with_reducible refine is_N ?_
  | with_reducible refine is_T ?_
  | with_reducible refine is_B ?_
  | with_reducible refine isn_N ?_
  | with_reducible refine isn_T ?_
  | with_reducible refine isn_B ?_
  | with_reducible refine in_s ?_
  | with_reducible refine nin_s ?_
  | with_reducible refine i_i ?_
  | with_reducible refine i_b ?_
  | with_reducible refine ab_i ?_
  | with_reducible refine mx_ii ?_
  | with_reducible refine mn_ii ?_
  | with_reducible refine ty_N ?_
  | with_reducible refine ty_B ?_
  | with_reducible refine ty_I ?_
  | with_reducible refine ty_S ?_
  | with_reducible refine ma_s ?_
  | with_reducible refine mp_s ?_
  | with_reducible refine mdg_s ?_
  | with_reducible refine mal_s ?_
  | with_reducible refine mlo_s ?_
  | with_reducible refine c_er ?_
  | with_reducible refine c_es ?_
  | with_reducible refine mf_s ?_
  | with_reducible refine iteT ?_
  | with_reducible refine iteF ?_
  | with_reducible refine iteNt ?_
  | with_reducible refine iteNf ?_
  | with_reducible refine iteTd (by decide) ?_
  | with_reducible refine iteFd (by decide) ?_
  | with_reducible refine iteNd (by decide) ?_
  | with_reducible refine iteNdF (by decide) ?_
  | ((with_reducible refine iteFd ?rdn ?_); (case rdn => (intro rdz; cases rdz; done)))
  | ((with_reducible refine iteNdF ?rdn ?_); (case rdn => (intro rdz; cases rdz; done))))
local macro_rules | `(tactic| walk_at "rd") => `(tactic| (repeat walk_at "rd1"))
section
variable {P : Program} {w : World} {K : PySem.W.Frag} {mg : Str → Option Value} {base : Heap}
/-! the well -/
def WellAt (H : Hp) (j : Addr) (t : Nat) : Prop := ∃ g m c : Int, H j = some (.lst [.int g, .int m, .int c]) ∧ 0 ≤ g ∧ 0 ≤ m ∧ m < 2 ^ 40 ∧ 0 ≤ c ∧ c ≤ (t : Int)
theorem WellAt.mono {H : Hp} {j : Addr} {t u : Nat} (h : WellAt H j t) (e : t ≤ u) : WellAt H j u := by
  obtain ⟨g, m, c, h1, h2, h3, h4, h5, h6⟩ := h
  exact ⟨g, m, c, h1, h2, h3, h4, h5, by omega⟩
theorem WellAt.same {H H' : Hp} {j : Addr} {t : Nat} (h : WellAt H j t) (e : Same H H') : WellAt H' j t := by
  obtain ⟨g, m, c, h1, h2⟩ := h
  exact ⟨g, m, c, e _ _ h1, h2⟩
theorem WellAt.keep {H : Hp} {j p : Addr} {t : Nat} {o : HO} (h : WellAt H j t) (e : p ≠ j) : WellAt (upd H p o) j t := by
  obtain ⟨g, m, c, h1, h2⟩ := h
  exact ⟨g, m, c, by rw [upd_ne (Ne.symm e)]; exact h1, h2⟩
theorem WellAt.off {H : Hp} {j p : Addr} {t : Nat} (h : WellAt H j t) (hp : H p = none) : p ≠ j := by
  obtain ⟨g, m, c, h1, _⟩ := h
  exact ne_new h1 hp
theorem WellAt.notT {H : Hp} {j : Addr} {t : Nat} (h : WellAt H j t) : ∀ x ∈ [j], ∀ o, H x = some o → NoT o := fun x hx o e => by
  obtain ⟨g, m, c, h1, _⟩ := h
  rw [List.mem_singleton.mp hx, h1] at e
  cases e
  exact True.intro
def sp_well (K : PySem.W.Frag) : Sp := fun vs H Q _ => ∃ i : Int, vs = [.int i] ∧ ∀ j H', H j = none → WellAt H' j 0 → Same H H' → Q (.ref j) H'
theorem ok_well (Y : Fx K mg) : FnOk P w K mg base CX0 1 Y.a__law_well Y.fd__law_well ["_law_cell"] (sp_well K) := by
  refine Y.F__law_well.ok sc__law_well (fun vs H Q E h => ?_) (fun cdv A outer st H vs Q E hr h => ?_)
  · obtain ⟨i, rfl, _⟩ := h
    rfl
  · obtain ⟨i, rfl, q⟩ := h
    refine ⟨_, b__law_well Y hr, ?_⟩
    show t__law_well K _ [some (.int i)] H
    unfold t__law_well
    walk_at "rd"
    refine pw_ii ⟨by decide, by decide, by decide⟩ ?_
    walk_at "rd"
    have fin : ∀ g : Int, 0 ≤ g → (fun x H1 => tCons (tOp (rADD K) (tOp rMOD (tVar 0) (tC (.int 1999999973))) (tC (.int 17))) (tCons (tC (.int 0)) tNil) [some (.int i)] H1 fun xs H2 => (x :: xs).length ≤ sizeLine ∧ ∀ p, H2 p = none → Q (.ref p) (upd H2 p (.lst (x :: xs)))) (.int g) H := fun g hg => by
      show tCons _ _ _ H _
      walk_at "rd"
      refine ⟨by show 3 ≤ sizeLine; decide, fun p hp => ?_⟩
      refine q p _ hp ⟨g, _, 0, upd_same, hg, ?_, ?_, Int.le_refl _, Int.le_refl _⟩ (same_upd hp)
      · have := Int.emod_nonneg i (show (1999999973 : Int) ≠ 0 by decide)
        omega
      · have := Int.emod_lt_of_pos i (show (0 : Int) < 1999999973 by decide)
        omega
    refine ite2' (fun e => ?_) (fun e => ?_)
    · have e1 := of_decide_eq_true e
      walk_at "rd"
      refine pw_ii ⟨by decide, by decide, by decide⟩ ?_
      refine s_ii ?_
      exact fin _ (by omega)
    · walk_at "rd"
      refine ⟨by show 3 ≤ sizeLine; decide, fun p hp => ?_⟩
      refine q p _ hp ⟨0, _, 0, upd_same, Int.le_refl _, ?_, ?_, Int.le_refl _, Int.le_refl _⟩ (same_upd hp)
      · have := Int.emod_nonneg i (show (1999999973 : Int) ≠ 0 by decide)
        omega
      · have := Int.emod_lt_of_pos i (show (0 : Int) < 1999999973 by decide)
        omega
def sp_dip (K : PySem.W.Frag) : Sp := fun vs H Q _ => ∃ (j : Addr) (n : Int) (t : Nat), vs = [.ref j, .int n] ∧ WellAt H j t ∧ t ≤ 1000000000 ∧ 0 < n ∧ n < 2 ^ 40 ∧ ∀ r H', 0 ≤ r → r < n → WellAt H' j (t + 1) → Fr [j] H H' → Q (.int r) H'
theorem ok_dip (Y : Fx K mg) : FnOk P w K mg base CX0 1 Y.a__law_dip Y.fd__law_dip ["_law_well_here", "_law_many"] (sp_dip K) := by
  refine Y.F__law_dip.ok sc__law_dip (fun vs H Q E h => ?_) (fun cdv A outer st H vs Q E hr h => ?_)
  · obtain ⟨j, n, t, rfl, _⟩ := h
    rfl
  · obtain ⟨j, n, t, rfl, ⟨g, m, c, hj, hg, hm0, hm1, hc0, hc1⟩, ht, hn0, hn1, q⟩ := h
    refine ⟨_, b__law_dip Y hr, ?_⟩
    show t__law_dip K _ [some (.ref j), some (.int n), none] H
    unfold t__law_dip
    walk_at "rd"
    refine ix_L (lst_of hj) (by rfl) ?_
    walk_at "rd"
    refine ite2' (fun e => ?_) (fun e => ?_)
    · have e1 := of_decide_eq_true e
      walk_at "rd"
      refine ix_L (lst_of hj) (by rfl) ?_
      walk_at "rd"
      refine ix_L (lst_of hj) (by rfl) ?_
      walk_at "rd"
      refine fd_ii ⟨hn0, log_40 hn0 hn1⟩ ?_
      walk_at "rd"
      refine st_L hj (by decide) (by show (0 : Int) < 3; decide) ?_
      walk_at "rd"
      exact q _ _ (Int.emod_nonneg _ (by omega)) (Int.emod_lt_of_pos _ hn0) ⟨_, m, c, upd_same, Int.ediv_nonneg hg (by omega), hm0, hm1, hc0, by omega⟩ ((Fr.refl H).upd (List.mem_singleton_self j))
    · walk_at "rd"
      refine ix_L (lst_of hj) (by rfl) ?_
      walk_at "rd"
      refine st_L hj (by decide) (by show (2 : Int) < 3; decide) ?_
      have h1 : (upd H j (.lst [.int g, .int m, .int (c + 1)])) j = some (.lst [.int g, .int m, .int (c + 1)]) := upd_same
      have hF1 : Fr [j] H (upd H j (.lst [.int g, .int m, .int (c + 1)])) := (Fr.refl H).upd (List.mem_singleton_self j)
      show tSeq _ _ _ _ (upd H j (.lst [.int g, .int m, .int (c + 1)]))
      generalize upd H j (.lst [.int g, .int m, .int (c + 1)]) = H1 at h1 hF1
      walk_at "rd"
      refine ix_L (lst_of h1) (by rfl) ?_
      walk_at "rd"
      refine m_ii (.inl (.inr (by decide))) ?_
      walk_at "rd"
      refine ix_L (lst_of h1) (by rfl) ?_
      walk_at "rd"
      refine ix_L (lst_of h1) (by rfl) ?_
      refine m_ii (.inl (.inl ⟨by omega, by omega⟩)) ?_
      walk_at "rd"
      refine m_ii (.inl (.inr (by decide))) ?_
      walk_at "rd"
      generalize he : (m * 44497 + (c + 1) * (c + 1) * 7001 + 13) % 2147483629 = m2
      have b0 : 0 ≤ m2 := by rw [← he]; exact Int.emod_nonneg _ (by decide)
      have b1 : m2 < 2147483629 := by rw [← he]; exact Int.emod_lt_of_pos _ (by decide)
      refine st_L h1 (by decide) (by show (1 : Int) < 3; decide) ?_
      have h2 : (upd H1 j (.lst [.int g, .int m2, .int (c + 1)])) j = some (.lst [.int g, .int m2, .int (c + 1)]) := upd_same
      have hF2 : Fr [j] H (upd H1 j (.lst [.int g, .int m2, .int (c + 1)])) := hF1.upd (List.mem_singleton_self j)
      show tRet _ _ _ (upd H1 j (.lst [.int g, .int m2, .int (c + 1)]))
      generalize upd H1 j (.lst [.int g, .int m2, .int (c + 1)]) = H2 at h2 hF2
      walk_at "rd"
      refine ix_L (lst_of h2) (by rfl) ?_
      walk_at "rd"
      refine ix_L (lst_of h2) (by rfl) ?_
      refine m_ii (.inl (.inl ⟨by omega, by omega⟩)) ?_
      walk_at "rd"
      refine fd_ii ⟨by decide, by decide⟩ ?_
      walk_at "rd"
      exact q _ _ (Int.emod_nonneg _ (by omega)) (Int.emod_lt_of_pos _ hn0) ⟨g, m2, c + 1, h2, hg, b0, by omega, by omega, by omega⟩ hF2
/-! a word -/
def allS : List Nat := [32, 33, 34, 35, 36, 38, 39, 40, 41, 42, 43, 44, 45, 46, 47, 48, 49, 50, 51, 52, 53, 54, 55, 56, 57, 58, 59, 60, 61, 62, 63, 64, 65, 66, 67, 68, 69, 70, 71, 72, 73, 74, 75, 76, 77, 78, 79, 80, 81, 82, 83, 84, 85, 86, 87, 88, 89, 90, 91, 92, 93, 94, 95, 96, 97, 98, 99, 100, 101, 102, 103, 104, 105, 106, 107, 108, 109, 110, 111, 112, 113, 114, 115, 116, 117, 118, 119, 120, 121, 122, 123, 124, 125, 126]
def sp_word (K : PySem.W.Frag) : Sp := fun vs H Q _ => ∃ (j : Addr) (n t : Nat), vs = [.ref j, .int n] ∧ WellAt H j t ∧ t ≤ 900000000 ∧ n ≤ 100 ∧ ∀ l H', l.length ≤ n → isT l = true → WellAt H' j (t + (n + 1)) → Fr [j] H H' → Q (.str (S l)) H'
theorem ok_word (Y : Fx K mg) : FnOk P w K mg base CX0 2 Y.a__law_word Y.fd__law_word ["_law_well_here", "_law_most"] (sp_word K) := by
  refine Y.F__law_word.ok sc__law_word (fun vs H Q E h => ?_) (fun cdv A outer st H vs Q E hr h => ?_)
  · obtain ⟨j, n, t, rfl, _⟩ := h
    rfl
  · obtain ⟨j, n, t, rfl, hW, ht, hn, q⟩ := h
    refine ⟨_, b__law_word Y (ok_dip Y) hr, ?_⟩
    show t__law_word K _ _ [some (.ref j), some (.int n), none, none] H
    unfold t__law_word
    rw [show (" !\"#$&'()*+,-./0123456789:;<=>?@ABCDEFGHIJKLMNOPQRSTUVWXYZ[\\]^_`abcdefghijklmnopqrstuvwxyz{|}~" : Str) = S allS from rfl, show ("" : Str) = S [] from rfl]
    walk_at "rd"
    refine ⟨j, _, t, rfl, hW, by omega, by omega, by omega, fun r H1 r0 r1 hW1 hF1 => ?_⟩
    walk_at "rd"
    refine lcR1_mk (by omega) (by omega) (fun D i H' => WellAt H' j (t + 1 + i) ∧ Fr [j] H H' ∧ ∃ cs : List (List Nat), H' D = some (.lst ((cs.map S).map V.str)) ∧ cs.length = i ∧ (∀ c ∈ cs, c.length = 1) ∧ ∀ c ∈ cs, isT c = true) (fun D hD => ⟨hW1.same (same_upd hD), hF1.new hD, [], upd_same, rfl, (by intro _ h; cases h), (by intro _ h; cases h)⟩) (fun D i H' hD hi hp => ?_) (fun D H3 hD hp => ?_)
    · obtain ⟨hW3, hF3, cs, hc, hcl, hc1, hc2⟩ := hp
      refine ⟨rfl, ?_⟩
      walk_at "rd"
      refine ⟨j, 94, _, rfl, hW3, by omega, by decide, by decide, fun r2 H4 h2 h3 hW4 hF4 => ?_⟩
      walk_at "rd"
      refine ix_SS h2 h3 (by decide) fun c hcc => ?_
      have oD := hW1.off hD
      have hc4 := hF4 D _ (fun z => oD (List.mem_singleton.mp z)) hc
      have hDH : H D = none := by
        cases e : H D with
        | none => rfl
        | some o =>
          have := hF1 D o (fun z => oD (List.mem_singleton.mp z)) e
          rw [hD] at this
          cases this
      refine ⟨_, hc4, ?_, (hW4.mono (by omega)).keep oD, (hF3.trans hF4).mut hDH, cs ++ [[c]], ?_, ?_, ?_, ?_⟩
      · rw [List.length_map, List.length_map]
        exact Nat.lt_of_le_of_lt (show cs.length ≤ 200 by omega) (by decide)
      · rw [upd_same, List.map_append, List.map_append]
        rfl
      · rw [List.length_append, hcl]
        rfl
      · intro d hd
        rcases List.mem_append.mp hd with h | h
        · exact hc1 d h
        · rw [List.mem_singleton.mp h]; rfl
      · intro d hd
        rcases List.mem_append.mp hd with h | h
        · exact hc2 d h
        · rw [List.mem_singleton.mp h]; exact isT_get (l := allS) (by decide) hcc
    · obtain ⟨hW3, hF3, cs, hc, hcl, hc1, hc2⟩ := hp
      have hfl := flat_len hc1
      refine jn_0 (lst_of hc) (by omega) ?_
      exact q _ H3 (by omega) (isT_flat hc2) (hW3.mono (by omega)) hF3
end
end My

set_option Elab.async false
set_option linter.all false
set_option maxRecDepth 100000
set_option maxHeartbeats 1000000
namespace My
open PySem PySem.Spec PyProof.Rows L2
local macro_rules | `(tactic| walk_at "len") => `(tactic| first | assumption | omega | decide | (simp only [List.length_append, List.length_take, List.length_drop, List.length_cons, List.length_nil, List.length_replicate]; omega))
local macro_rules | `(tactic| walk_at "side") => `(tactic| first | assumption | exact Nat.zero_le _ | decide | omega)
local macro_rules | `(tactic| walk_at "rd1") => `(tactic| first
  | with_reducible refine s_seq ?_
  | with_reducible refine x_gsub ?_
  | with_reducible refine s_asg ?_
  | ((with_reducible refine s_gn ?_); dsimp only [List.set])
  | ((with_reducible refine x_var (v := ?rdv) ?rdhv ?_); (case rdhv => rfl))
  | with_reducible refine x_c ?_
  | with_reducible refine x_op ?_
  | with_reducible refine x_cons ?_
  | with_reducible refine x_nil ?_
  | with_reducible refine x_cb ?_
  | with_reducible refine x_call ?_
  | with_reducible refine x_callS ?_
  | with_reducible refine x_revT ?_
  | with_reducible refine x_dget ?_
  | with_reducible refine x_makeS ?_
  | with_reducible refine x_make ?_
  | with_reducible refine x_makeKS ?_
  | with_reducible refine x_methS ?_
  | with_reducible refine x_meth ?_
  | with_reducible refine x_methK ?_
  | with_reducible refine x_fld ?_
  | with_reducible refine s_fld ?_
  | with_reducible refine f_rt ?_
  | with_reducible refine f_zm ?_
  | with_reducible refine c_zm ?_
  | with_reducible refine x_din ?_
  | with_reducible refine x_dnotin ?_
  | with_reducible refine s_dput ?_
  | with_reducible refine x_dnew ?_
  | with_reducible refine s_try ?_
  | with_reducible refine s_raise ?_
  | with_reducible refine s_if ?_
  | with_reducible refine s_ret ?_
  | with_reducible refine s_retN ?_
  | with_reducible refine s_next ?_
  | with_reducible refine s_brk ?_
  | with_reducible refine s_cont ?_
  | with_reducible refine s_drop ?_
  | with_reducible refine s_par ?_
  | with_reducible refine s_par3 ?_
  | ((with_reducible refine s_p2 ?_); dsimp only [List.set])
  | ((with_reducible refine s_p3 ?_); dsimp only [List.set])
  | with_reducible refine f_r1 ?_
  | with_reducible refine f_r2 ?_
  | with_reducible refine f_l ?_
  | with_reducible refine f_t ?_
  | with_reducible refine f_s ?_
  | with_reducible refine c_r1 ?_
  | with_reducible refine c_r2 ?_
  | with_reducible refine c_l ?_
  | with_reducible refine c_t ?_
  | with_reducible refine c_s ?_
  | with_reducible refine x_tst ?_
  | with_reducible refine x_tru ?_
  | with_reducible refine x_truB ?_
  | with_reducible refine x_bl2 ?_
  | with_reducible refine x_int ?_
  | with_reducible refine x_str ?_
  | with_reducible refine x_not ?_
  | with_reducible refine x_and ?_
  | with_reducible refine x_or ?_
  | with_reducible refine x_andV ?_
  | with_reducible refine x_orV ?_
  | with_reducible refine x_notV ?_
  | with_reducible refine x_if ?_
  | with_reducible refine x_yes ?_
  | with_reducible refine x_un ?_
  | with_reducible refine x_tup ?_
  | with_reducible refine x_lst ?_
  | with_reducible refine x_callK ?_
  | with_reducible refine x_callK0 ?_
  | with_reducible refine x_bm ?_
  | with_reducible refine x_bm0 ?_
  | with_reducible refine x_tyS ?_
  | with_reducible refine x_sl ?_
  | with_reducible refine x_nopart ?_
  | with_reducible refine x_part ?_
  | with_reducible refine x_fmt0 ?_
  | with_reducible refine x_gc ?_
  | with_reducible refine x_gz ?_
  | with_reducible refine x_ckw ?_
  | with_reducible refine x_fmt ?_
  | with_reducible refine x_chain ?_
  | with_reducible refine a_ii ?_
  | ((with_reducible refine sl_to ?rda ?rdb ?_); (case rda => walk_at "len"); (case rdb => walk_at "len"))
  | ((with_reducible refine sl_from ?rda ?rdb ?_); (case rda => walk_at "len"); (case rdb => walk_at "len"))
  | ((with_reducible refine sl_mid ?rda ?rdb ?rdc ?_); (case rda => walk_at "len"); (case rdb => walk_at "len"); (case rdc => walk_at "len"))
  | ((with_reducible refine a_SS ?rda ?_); (case rda => walk_at "len"))
  | ((with_reducible refine ln_S ?rda ?_); (case rda => walk_at "len"))
  | with_reducible refine e_SS ?_
  | with_reducible refine ne_SS ?_
  | with_reducible refine s_ii ?_
  | ((with_reducible refine md_ii ?rdc ?_); (case rdc => first | decide | assumption | omega))
  | with_reducible refine n_i ?_
  | with_reducible refine e_ii ?_
  | with_reducible refine e_bb ?_
  | with_reducible refine ne_ii ?_
  | with_reducible refine ne_bb ?_
  | with_reducible refine lt_ii ?_
  | with_reducible refine lt_ss ?_
  | with_reducible refine le_ii ?_
  | with_reducible refine le_ss ?_
  | with_reducible refine gt_ii ?_
  | with_reducible refine gt_ss ?_
  | with_reducible refine ge_ii ?_
  | with_reducible refine e_ss ?_
  | with_reducible refine ne_ss ?_
  | with_reducible refine is_N ?_
  | with_reducible refine is_T ?_
  | with_reducible refine is_B ?_
  | with_reducible refine isn_N ?_
  | with_reducible refine isn_T ?_
  | with_reducible refine isn_B ?_
  | with_reducible refine in_s ?_
  | with_reducible refine nin_s ?_
  | with_reducible refine i_i ?_
  | with_reducible refine i_b ?_
  | with_reducible refine ab_i ?_
  | with_reducible refine mx_ii ?_
  | with_reducible refine mn_ii ?_
  | with_reducible refine ty_N ?_
  | with_reducible refine ty_B ?_
  | with_reducible refine ty_I ?_
  | with_reducible refine ty_S ?_
  | with_reducible refine ma_s ?_
  | with_reducible refine mp_s ?_
  | with_reducible refine mdg_s ?_
  | with_reducible refine mal_s ?_
  | with_reducible refine mlo_s ?_
  | with_reducible refine c_er ?_
  | with_reducible refine c_es ?_
  | with_reducible refine mf_s ?_
  | with_reducible refine iteT ?_
  | with_reducible refine iteF ?_
  | with_reducible refine iteNt ?_
  | with_reducible refine iteNf ?_
  | with_reducible refine iteTd (by decide) ?_
  | with_reducible refine iteFd (by decide) ?_
  | with_reducible refine iteNd (by decide) ?_
  | with_reducible refine iteNdF (by decide) ?_
  | ((with_reducible refine iteFd ?rdn ?_); (case rdn => (intro rdz; cases rdz; done)))
  | ((with_reducible refine iteNdF ?rdn ?_); (case rdn => (intro rdz; cases rdz; done))))
local macro_rules | `(tactic| walk_at "rd") => `(tactic| (repeat walk_at "rd1"))
section
variable {P : Program} {w : World} {K : PySem.W.Frag} {mg : Str → Option Value} {base : Heap}
def Wl (M : List Addr) (H : Hp) (j : Addr) (t : Nat) : Prop := WellAt H j t ∧ ∀ x ∈ M, ∃ o, H x = some o ∧ NoT o
theorem Wl.mono {M : List Addr} {H : Hp} {j : Addr} {t u : Nat} (h : Wl M H j t) (e : t ≤ u) : Wl M H j u := ⟨h.1.mono e, h.2⟩
theorem Wl.same {M : List Addr} {H H' : Hp} {j : Addr} {t : Nat} (h : Wl M H j t) (e : Same H H') : Wl M H' j t := ⟨h.1.same e, fun x hx => by
  obtain ⟨o, h1, h2⟩ := h.2 x hx
  exact ⟨o, e _ _ h1, h2⟩⟩
theorem Wl.dip {M : List Addr} {H H' : Hp} {j : Addr} {t u : Nat} (h : Wl M H j t) (hw : WellAt H' j u) (e : Fr [j] H H') : Wl M H' j u := ⟨hw, fun x hx => by
  by_cases z : x = j
  · subst z
    obtain ⟨g, m, c, h1, _⟩ := hw
    exact ⟨_, h1, True.intro⟩
  · obtain ⟨o, h1, h2⟩ := h.2 x hx
    exact ⟨o, e _ _ (fun y => z (List.mem_singleton.mp y)) h1, h2⟩⟩
theorem Wl.notT {M : List Addr} {H : Hp} {j : Addr} {t : Nat} (h : Wl M H j t) : ∀ x ∈ j :: M, ∀ o, H x = some o → NoT o := fun x hx o e => by
  rcases List.mem_cons.mp hx with z | z
  · subst z
    obtain ⟨g, m, c, h1, _⟩ := h.1
    rw [h1] at e
    cases e
    exact True.intro
  · obtain ⟨o', h1, h2⟩ := h.2 x z
    rw [h1] at e
    cases e
    exact h2
theorem fr_cons {M : List Addr} {H H' : Hp} {j : Addr} (e : Fr [j] H H') : Fr (j :: M) H H' := Fr.mono e fun x hx => by
  rw [List.mem_singleton.mp hx]
  exact List.mem_cons_self
/-! ### some data, made by an expression -/
theorem dp_fr {j : Addr} {M : List Addr} {H H' : Hp} {x : V} {d : PyData} (h : Dp K (ms (j :: M) H) x d) (e : Fr [j] H H') : Dp K (ms (j :: M) H') x d := dp_mono (ms_mono (fr_cons e)) _ _ h
theorem dps_fr {j : Addr} {M : List Addr} {H H' : Hp} {xs : List V} {ds : List PyData} (h : DpAll K (ms (j :: M) H) xs ds) (e : Fr [j] H H') : DpAll K (ms (j :: M) H') xs ds := dpAll_mono (ms_mono (fr_cons e)) _ _ h
theorem dpa_app {H : Hp} : ∀ {xs ys : List V} {ds es : List PyData}, DpAll K H xs ds → DpAll K H ys es → DpAll K H (xs ++ ys) (ds ++ es)
  | _, _, _, _, .nil, h => h
  | _, _, _, _, .cons a b, h => .cons a (dpa_app b h)
theorem dpa_take {H : Hp} : ∀ {xs : List V} {ds : List PyData} (n : Nat), DpAll K H xs ds → DpAll K H (xs.take n) (ds.take n)
  | _, _, 0, _ => by rw [List.take_zero, List.take_zero]; exact .nil
  | _, _, _ + 1, .nil => .nil
  | _, _, n + 1, .cons a b => .cons a (dpa_take n b)
theorem dpa_drop {H : Hp} : ∀ {xs : List V} {ds : List PyData} (n : Nat), DpAll K H xs ds → DpAll K H (xs.drop n) (ds.drop n)
  | _, _, 0, h => h
  | _, _, _ + 1, .nil => .nil
  | _, _, n + 1, .cons a b => dpa_drop n b
theorem dpa_rev {H : Hp} : ∀ {xs : List V} {ds : List PyData}, DpAll K H xs ds → DpAll K H xs.reverse ds.reverse
  | _, _, .nil => .nil
  | _, _, .cons a b => by
    rw [List.reverse_cons, List.reverse_cons]
    exact dpa_app (dpa_rev b) (.cons a .nil)
theorem Gds.one {k W : Nat} {d : PyData} (h : Gd k W d) : Gds k (W + 2) [d] := (Gds.cons h (Gds.nil (W := 0))).mono (Nat.le_refl _) (Nat.le_refl _)
theorem Gds.rev {k : Nat} : ∀ {ds : List PyData} {W : Nat}, Gds k W ds → Gds k W ds.reverse
  | [], _, h => h
  | d :: ds, W, h => by
    have h1 := h.1
    rw [Pls, Bool.and_eq_true] at h1
    have h4 : max d.depth (PyData.depthAll ds) ≤ k := h.2
    have h3 : sh d + 2 + shs ds ≤ W := h.3
    rw [List.reverse_cons]
    have r := Gds.rev (ds := ds) (W := shs ds) ⟨h1.2, Nat.le_trans (Nat.le_max_right _ _) h4, Nat.le_refl _⟩
    exact (Gds.app r (Gds.one (W := sh d) ⟨h1.1, Nat.le_trans (Nat.le_max_left _ _) h4, Nat.le_refl _⟩)).mono (Nat.le_refl _) (by omega)
theorem Gds.all {k W : Nat} : ∀ {ds : List PyData}, (∀ d ∈ ds, Gd k W d) → Gds k ((W + 2) * ds.length) ds
  | [], _ => Gds.nil
  | d :: ds, h => (Gds.cons (h d (.head _)) (Gds.all (ds := ds) fun e he => h e (.tail _ he))).mono (Nat.le_refl _) (by rw [List.length_cons, Nat.mul_succ]; omega)
def GE (K : PySem.W.Frag) (j : Addr) (M : List Addr) (H0 : Hp) (σ : L2.St) (k W c : Nat) (e : TE) : Prop := ∀ H t Q, Fr [j] H0 H → Wl M H j t → t + c ≤ 900000000 → (∀ x d H', Fr [j] H H' → Wl M H' j (t + c) → Dp K (ms (j :: M) H') x d → Gd k W d → Q x H') → e σ H Q
def GT (K : PySem.W.Frag) (j : Addr) (M : List Addr) (H0 : Hp) (σ : L2.St) (k W c : Nat) (e : TE) : Prop := ∀ H t Q, Fr [j] H0 H → Wl M H j t → t + c ≤ 900000000 → (∀ x ds H', Fr [j] H H' → Wl M H' j (t + c) → Dp K (ms (j :: M) H') x (.tuple ds) → Gds k W ds → Q x H') → e σ H Q
def GL (K : PySem.W.Frag) (j : Addr) (M : List Addr) (H0 : Hp) (σ : L2.St) (n k W c : Nat) (e : TA) : Prop := ∀ H t Q, Fr [j] H0 H → Wl M H j t → t + c ≤ 900000000 → (∀ xs ds H', xs.length = n → DpAll K (ms (j :: M) H') xs ds → (∀ d ∈ ds, Gd k W d) → Fr [j] H H' → Wl M H' j (t + c) → Q xs H') → e σ H Q
def GO (K : PySem.W.Frag) (j : Addr) (M : List Addr) (H0 : Hp) (σ : L2.St) (c : Nat) (e : TO) : Prop := ∀ H t Q, Fr [j] H0 H → Wl M H j t → t + c ≤ 900000000 → (∀ o H', Fr [j] H H' → Wl M H' j (t + c) → Q o H') → e σ H Q
variable {j : Addr} {M : List Addr} {H0 : Hp} {σ : L2.St} {k W c : Nat}
theorem GE.mono {k2 W2 c2 : Nat} {e : TE} (h : GE K j M H0 σ k W c e) (h1 : k ≤ k2) (h2 : W ≤ W2) (h3 : c ≤ c2) : GE K j M H0 σ k2 W2 c2 e := fun H t Q hF hW ht q => h H t Q hF hW (by omega) fun x d H' a b e f => q x d H' a (b.mono (by omega)) e (f.mono h1 h2)
theorem GT.mono {k2 W2 c2 : Nat} {e : TE} (h : GT K j M H0 σ k W c e) (h1 : k ≤ k2) (h2 : W ≤ W2) (h3 : c ≤ c2) : GT K j M H0 σ k2 W2 c2 e := fun H t Q hF hW ht q => h H t Q hF hW (by omega) fun x d H' a b e f => q x d H' a (b.mono (by omega)) e (f.mono h1 h2)
theorem GT.ge {e : TE} (h : GT K j M H0 σ k W c e) : GE K j M H0 σ (k + 1) (W + 4) c e := fun H t Q hF hW ht q => h H t Q hF hW ht fun x ds H' a b e f => q x _ H' a b e (Gd.tup f)
theorem GE.va {i : Nat} {x : V} {d : PyData} (hi : σ[i]? = some (some x)) (hd : Dp K (ms (j :: M) H0) x d) (hg : Gd k W d) : GE K j M H0 σ k W 0 (tVar i) := fun H t Q hF hW ht q => x_var hi (q x d H (Fr.refl H) hW (dp_fr hd hF) hg)
theorem GT.va {i : Nat} {x : V} {ds : List PyData} (hi : σ[i]? = some (some x)) (hd : Dp K (ms (j :: M) H0) x (.tuple ds)) (hg : Gds k W ds) : GT K j M H0 σ k W 0 (tVar i) := fun H t Q hF hW ht q => x_var hi (q x ds H (Fr.refl H) hW (dp_fr hd hF) hg)
theorem GE.cc {v : V} {d : PyData} (hd : ∀ H, Dp K H v d) (hg : Gd 0 140 d) : GE K j M H0 σ 0 140 0 (tC v) := fun H t Q hF hW ht q => x_c (q v d H (Fr.refl H) hW (hd _) hg)
theorem GE.cs {z : Str} (h : PyData.strOk z = true) (hl : 10 * z.length + 2 ≤ 140) : GE K j M H0 σ 0 140 0 (tC (.str z)) := GE.cc (fun _ => .str z) ⟨h, Nat.le_refl _, hl⟩
theorem GE.ci {i : Int} (h : i.natAbs < 10 ^ 40) : GE K j M H0 σ 0 140 0 (tC (.int i)) := GE.cc (fun _ => .int i) ⟨decide_eq_true h, Nat.le_refl _, Nat.le_refl _⟩
theorem GE.cn : GE K j M H0 σ 0 140 0 (tC .non) := GE.cc (fun _ => .non) ⟨rfl, Nat.le_refl _, by decide⟩
theorem GE.cb {b : Bool} : GE K j M H0 σ 0 140 0 (tC (.bl b)) := GE.cc (fun _ => .bl b) ⟨rfl, Nat.le_refl _, by show 5 ≤ 140; decide⟩
theorem GE.iv {i : Nat} {z : Int} (hi : σ[i]? = some (some (.int z))) (h : z.natAbs < 10 ^ 40) : GE K j M H0 σ 0 140 0 (tVar i) := GE.va hi (.int z) ⟨decide_eq_true h, Nat.le_refl _, Nat.le_refl _⟩
/-- an expression that only reads, to a number -/
theorem GE.in {e : TE} {z : Int} (h : ∀ H Q, Q (.int z) H → e σ H Q) (hz : z.natAbs < 10 ^ 40) : GE K j M H0 σ 0 140 0 e := fun H t Q hF hW ht q => h H Q (q _ (.int z) H (Fr.refl H) hW (.int z) ⟨decide_eq_true hz, Nat.le_refl _, Nat.le_refl _⟩)
theorem GL.nil : GL K j M H0 σ 0 k W 0 tNil := fun H t Q hF hW ht q => x_nil (q [] [] H rfl .nil (by intro _ h; cases h) (Fr.refl H) hW)
theorem GL.cons {n c1 c2 : Nat} {e : TE} {r : TA} (h : GE K j M H0 σ k W c1 e) (h2 : GL K j M H0 σ n k W c2 r) : GL K j M H0 σ (n + 1) k W (c1 + c2) (tCons e r) := fun H t Q hF hW ht q => by
  refine x_cons (h H t _ hF hW (by omega) fun x d H1 a1 b1 d1 g1 => ?_)
  refine h2 H1 (t + c1) _ (hF.trans a1) b1 (by omega) fun xs ds H2 l2 d2 g2 a2 b2 => ?_
  refine q _ (d :: ds) H2 (by rw [List.length_cons, l2]) (.cons (dp_fr d1 a2) d2) (fun y hy => ?_) (a1.trans a2) (b2.mono (by omega))
  rcases List.mem_cons.mp hy with z | z
  · rw [z]; exact g1
  · exact g2 y z
theorem new_dps {xs : List V} {ds : List PyData} {H : Hp} {p : Addr} {o : HO} (h : DpAll K (ms (j :: M) H) xs ds) (hp : H p = none) : DpAll K (ms (j :: M) (upd H p o)) xs ds := dpAll_mono (ms_same (same_upd hp)) _ _ h
theorem off1 {H : Hp} {t : Nat} {p : Addr} (hW : WellAt H j t) (hp : H p = none) : p ∉ [j] := fun z => hW.off hp (List.mem_singleton.mp z)
theorem offM {H : Hp} {t : Nat} {p : Addr} (hW : Wl M H j t) (hp : H p = none) : p ∉ j :: M := fun z => by
  rcases List.mem_cons.mp z with z | z
  · exact hW.1.off hp z
  · obtain ⟨o, h1, _⟩ := hW.2 p z
    rw [hp] at h1
    cases h1
theorem GT.tp {n : Nat} {r : TA} (h : GL K j M H0 σ n k W c r) (hn : n ≤ 1000) : GT K j M H0 σ k ((W + 2) * n) c (tTup r) := fun H t Q hF hW ht q => by
  refine x_tup (h H t _ hF hW ht fun xs ds H1 l1 d1 g1 a1 b1 => ⟨by rw [l1]; exact Nat.le_trans hn (by decide), fun p hp => ?_⟩)
  have hl := dpAll_len d1
  refine q _ ds _ (a1.new hp) (b1.same (same_upd hp)) (.tup (tup_of (ms_at (offM b1 hp) upd_same)) (new_dps d1 hp)) ?_
  have := Gds.all g1
  rw [← hl, l1] at this
  exact this
theorem GE.ls {n : Nat} {r : TA} (h : GL K j M H0 σ n k W c r) (hn : n ≤ 1000) : GE K j M H0 σ (k + 1) ((W + 2) * n + 4) c (tLst r) := fun H t Q hF hW ht q => by
  refine x_lst (h H t _ hF hW ht fun xs ds H1 l1 d1 g1 a1 b1 => ⟨by rw [l1]; exact Nat.le_trans hn (by decide), fun p hp => ?_⟩)
  have hl := dpAll_len d1
  refine q _ _ _ (a1.new hp) (b1.same (same_upd hp)) (.lst (lst_of (ms_at (offM b1 hp) upd_same)) (new_dps d1 hp)) (Gd.lst ?_)
  have := Gds.all g1
  rw [← hl, l1] at this
  exact this
theorem GE.tp {n : Nat} {r : TA} (h : GL K j M H0 σ n k W c r) (hn : n ≤ 1000) : GE K j M H0 σ (k + 1) ((W + 2) * n + 4) c (tTup r) := (GT.tp h hn).ge
theorem sqt_of {p : Addr} {xs : List V} {H : Hp} (h : SqT K (ms (j :: M) H) p xs) : SqT K H p xs := same_sqt ms_le h
theorem GE.li {e : TE} (h : GT K j M H0 σ k W c e) : GE K j M H0 σ (k + 1) (W + 4) c (tCB (rLIST K) (tCons e tNil)) := fun H t Q hF hW ht q => by
  refine x_cb (x_cons (h H t _ hF hW ht fun x ds H1 a1 b1 d1 g1 => x_nil ?_))
  obtain ⟨p, us, rfl, hs, hd⟩ := dp_tup' d1
  refine ⟨p, us, rfl, .inr (sqt_of hs), fun l hl => ?_⟩
  exact q _ _ _ (a1.new hl) (b1.same (same_upd hl)) (.lst (lst_of (ms_at (offM b1 hl) upd_same)) (new_dps hd hl)) (Gd.lst g1)
theorem GT.rv {e : TE} (h : GT K j M H0 σ k W c e) : GT K j M H0 σ k W c (tRevT K e) := fun H t Q hF hW ht q => by
  refine x_revT (h H t _ hF hW ht fun x ds H1 a1 b1 d1 g1 => ?_)
  obtain ⟨p, us, rfl, hs, hd⟩ := dp_tup' d1
  refine ⟨p, us, rfl, sqt_of hs, fun l hl => ?_⟩
  exact q _ _ _ (a1.new hl) (b1.same (same_upd hl)) (.tup (tup_of (ms_at (offM b1 hl) upd_same)) (new_dps (dpa_rev hd) hl)) g1.rev
theorem cut_dps {H : Hp} {xs : List V} {ds : List PyData} {lo hi : Option Int} (h : DpAll K H xs ds) : ∃ es, DpAll K H (cutV xs lo hi) es ∧ es.Sublist ds := ⟨_, dpa_take _ (dpa_drop _ h), (List.take_sublist _ _).trans (List.drop_sublist _ _)⟩
theorem GT.sl {c2 c3 : Nat} {e : TE} {l u : TO} (h : GT K j M H0 σ k W c e) (hl : GO K j M H0 σ c2 l) (hu : GO K j M H0 σ c3 u) : GT K j M H0 σ k W (c + c2 + c3) (tSl (rSL K) e l u) := fun H t Q hF hW ht q => by
  refine x_sl (h H t _ hF hW (by omega) fun x ds H1 a1 b1 d1 g1 => ?_)
  refine hl H1 _ _ (hF.trans a1) b1 (by omega) fun o1 H2 a2 b2 => ?_
  refine hu H2 _ _ ((hF.trans a1).trans a2) b2 (by omega) fun o2 H3 a3 b3 => ?_
  have d3 := dp_fr (dp_fr d1 a2) a3
  obtain ⟨p, us, rfl, hs, hd⟩ := dp_tup' d3
  refine sl_T (sqt_of hs) fun p2 H4 hS hp2 => ?_
  obtain ⟨es, he, hsub⟩ := cut_dps (lo := o1) (hi := o2) hd
  have b4 := b3.same hS
  exact q _ es H4 (((a1.trans a2).trans a3).trans (Fr.of hS)) (b4.mono (by omega)) (.tup (ms_sqt b4.notT hp2) (dpAll_mono (ms_same hS) _ _ he)) (g1.sub hsub)
theorem GT.ap {W2 c2 : Nat} {e f : TE} (h : GT K j M H0 σ k W c e) (h2 : GT K j M H0 σ k W2 c2 f) (hw : W + W2 ≤ 4000000) : GT K j M H0 σ k (W + W2) (c + c2) (tOp (rADD K) e f) := fun H t Q hF hW ht q => by
  refine x_op (h H t _ hF hW (by omega) fun x ds H1 a1 b1 d1 g1 => ?_)
  refine h2 H1 _ _ (hF.trans a1) b1 (by omega) fun y es H2 a2 b2 d2 g2 => ?_
  have d1' := dp_fr d1 a2
  obtain ⟨p1, us1, rfl, hs1, hd1⟩ := dp_tup' d1'
  obtain ⟨p2, us2, rfl, hs2, hd2⟩ := dp_tup' d2
  have l1 := dpAll_len hd1
  have l2 := dpAll_len hd2
  have w1 := shs_len ds
  have w2 := shs_len es
  have w3 := g1.3
  have w4 := g2.3
  refine a_tt (sqt_of hs1) (sqt_of hs2) (Nat.le_trans (show _ ≤ 2000000 by omega) (by decide)) ⟨fun e => ?_, fun _ e => ?_, fun _ _ l hl => ?_⟩
  · subst e
    cases hd1
    exact q _ es H2 (a1.trans a2) (b2.mono (by omega)) (.tup hs2 hd2) (g2.mono (Nat.le_refl _) (by omega))
  · subst e
    cases hd2
    exact q _ ds H2 (a1.trans a2) (b2.mono (by omega)) (.tup hs1 hd1) (g1.mono (Nat.le_refl _) (by omega))
  · exact q _ (ds ++ es) _ ((a1.trans a2).new hl) ((b2.same (same_upd hl)).mono (by omega)) (.tup (tup_of (ms_at (offM b2 hl) upd_same)) (new_dps (dpa_app hd1 hd2) hl)) (g1.app g2)
theorem GO.no : GO K j M H0 σ 0 tNoPart := fun H t Q hF hW ht q => x_nopart (q none H (Fr.refl H) hW)
theorem GO.in {e : TE} {z : Int} (h : ∀ H Q, Q (.int z) H → e σ H Q) : GO K j M H0 σ 0 (tPart e) := fun H t Q hF hW ht q => x_part (h H _ ⟨z, rfl, q _ H (Fr.refl H) hW⟩)
theorem GO.dp {e : TE} {i : Nat} {z : Int} {n : Int} (h : ∀ H Q, Q (.int z) H → e σ H Q) (hi : σ[i]? = some (some (.ref j))) (h0 : 0 < n) (h1 : n < 2 ^ 40) : GO K j M H0 σ 1 (tPart (tOp (rADD K) e (tCall (sp_dip K) [] E0 (tCons (tVar i) (tCons (tC (.int n)) tNil))))) := fun H t Q hF hW ht q => by
  refine x_part (x_op (h H _ (x_call (x_cons (x_var hi (x_cons (x_c (x_nil ?_))))))))
  refine ⟨j, n, t, rfl, hW.1, by omega, h0, h1, fun r H1 r0 r1 hW1 hF1 => ?_⟩
  replace hW1 := hW.dip hW1 hF1
  exact a_ii ⟨_, rfl, q _ H1 hF1 hW1⟩
theorem rd_c {z : Int} : ∀ (H : Hp) (Q : VK), Q (.int z) H → tC (.int z) σ H Q := fun _ _ q => x_c q
theorem rd_v {i : Nat} {z : Int} (hi : σ[i]? = some (some (.int z))) : ∀ (H : Hp) (Q : VK), Q (.int z) H → tVar i σ H Q := fun _ _ q => x_var hi q
theorem rd_n {e : TE} {z : Int} (h : ∀ (H : Hp) (Q : VK), Q (.int z) H → e σ H Q) : ∀ (H : Hp) (Q : VK), Q (.int (-z)) H → tUn rNEG e σ H Q := fun H _ q => x_un (h H _ (n_i q))
theorem rd_a {e f : TE} {z y : Int} (h : ∀ (H : Hp) (Q : VK), Q (.int z) H → e σ H Q) (h2 : ∀ (H : Hp) (Q : VK), Q (.int y) H → f σ H Q) : ∀ (H : Hp) (Q : VK), Q (.int (z + y)) H → tOp (rADD K) e f σ H Q := fun H _ q => x_op (h H _ (h2 H _ (a_ii q)))
theorem rd_s {e f : TE} {z y : Int} (h : ∀ (H : Hp) (Q : VK), Q (.int z) H → e σ H Q) (h2 : ∀ (H : Hp) (Q : VK), Q (.int y) H → f σ H Q) : ∀ (H : Hp) (Q : VK), Q (.int (z - y)) H → tOp rSUB e f σ H Q := fun H _ q => x_op (h H _ (h2 H _ (s_ii q)))
theorem rd_p {z y : Int} (hc : CPow z y) : ∀ (H : Hp) (Q : VK), Q (.int (z ^ y.toNat)) H → tOp rPOW (tC (.int z)) (tC (.int y)) σ H Q := fun H _ q => x_op (x_c (x_c (pw_ii hc q)))
/-- one of a list just made -/
theorem GE.pk {n i : Nat} {m : Int} {r : TA} (h : GL K j M H0 σ n k W c r) (hm : m = (n : Int)) (hi : σ[i]? = some (some (.ref j))) (h0 : 0 < n) (h1 : n ≤ 1000) : GE K j M H0 σ k W (c + 1) (tOp (rIX K) (tLst r) (tCall (sp_dip K) [] E0 (tCons (tVar i) (tCons (tC (.int m)) tNil)))) := fun H t Q hF hW ht q => by
  subst hm
  refine x_op (x_lst (h H t _ hF hW (by omega) fun xs ds H1 l1 d1 g1 a1 b1 => ⟨by rw [l1]; exact Nat.le_trans h1 (by decide), fun p hp => ?_⟩))
  refine x_call (x_cons (x_var hi (x_cons (x_c (x_nil ?_)))))
  refine ⟨j, n, _, rfl, (b1.same (same_upd hp)).1, by omega, by omega, by omega, fun z H2 z0 z1 b2 a2 => ?_⟩
  replace b2 := (b1.same (same_upd hp)).dip b2 a2
  have hl := dpAll_len d1
  have d2 := dps_fr (new_dps (o := .lst xs) d1 hp) a2
  have hz : z.toNat < ds.length := by rw [← hl, l1]; omega
  obtain ⟨v, e1, dv⟩ := dpAll_get d2 hz
  have e3 : z = ((z.toNat : Nat) : Int) := by omega
  refine ix_L (lst_of (a2 _ _ (off1 b1.1 hp) upd_same)) (by rw [e3]; exact atI_nat e1) ?_
  exact q v _ H2 ((a1.new hp).trans a2) (b2.mono (by omega)) dv (g1 _ (List.getElem_mem hz))
/-- a part of a tuple known -/
theorem GE.ix {i m : Nat} {x : V} {ds : List PyData} {d : PyData} (hi : σ[i]? = some (some x)) (hd : Dp K (ms (j :: M) H0) x (.tuple ds)) (hm : ds[m]? = some d) (hg : Gd k W d) : GE K j M H0 σ k W 0 (tOp (rIX K) (tVar i) (tC (.int m))) := fun H t Q hF hW ht q => by
  refine x_op (x_var hi (x_c ?_))
  obtain ⟨p, us, rfl, hs, ha⟩ := dp_tup' (dp_fr hd hF)
  obtain ⟨hl, rfl⟩ := List.getElem?_eq_some_iff.mp hm
  obtain ⟨v, e1, dv⟩ := dpAll_get ha hl
  exact ix_T (sqt_of hs) (atI_nat e1) (q v _ H (Fr.refl H) hW dv hg)
theorem GT.ix {i m : Nat} {x : V} {ds es : List PyData} (hi : σ[i]? = some (some x)) (hd : Dp K (ms (j :: M) H0) x (.tuple ds)) (hm : ds[m]? = some (.tuple es)) (hg : Gds k W es) : GT K j M H0 σ k W 0 (tOp (rIX K) (tVar i) (tC (.int m))) := fun H t Q hF hW ht q => by
  refine x_op (x_var hi (x_c ?_))
  obtain ⟨p, us, rfl, hs, ha⟩ := dp_tup' (dp_fr hd hF)
  obtain ⟨hl, e⟩ := List.getElem?_eq_some_iff.mp hm
  obtain ⟨v, e1, dv⟩ := dpAll_get ha hl
  rw [e] at dv
  exact ix_T (sqt_of hs) (atI_nat e1) (q v _ H (Fr.refl H) hW dv hg)
/-! another value -/
def sp_odd (K : PySem.W.Frag) : Sp := fun vs H Q _ => ∃ (j : Addr) (M : List Addr) (t : Nat), vs = [.ref j] ∧ Wl M H j t ∧ t + 1 ≤ 900000000 ∧ ∀ x d H', Fr [j] H H' → Wl M H' j (t + 1) → Dp K (ms (j :: M) H') x d → Gd 2 500 d → Q x H'
theorem GE.odd {i : Nat} (hi : σ[i]? = some (some (.ref j))) : GE K j M H0 σ 2 500 1 (tCall (sp_odd K) [] E0 (tCons (tVar i) tNil)) := fun H t Q hF hW ht q => x_call (x_cons (x_var hi (x_nil ⟨j, M, t, rfl, hW, ht, q⟩)))
theorem GE.ret {e : TE} {t : Nat} {n b kk : L2.St → Hp → Prop} {rt : VK} (h : GE K j M H0 σ k W c e) (hW : Wl M H0 j t) (ht : t + c ≤ 900000000) (q : ∀ x d H', Fr [j] H0 H' → Wl M H' j (t + c) → Dp K (ms (j :: M) H') x d → Gd k W d → rt x H') : tRet e ⟨n, rt, b, kk⟩ σ H0 := s_ret (h H0 t _ (Fr.refl H0) hW ht q)
end
end My

set_option Elab.async false
set_option linter.all false
set_option maxRecDepth 100000
set_option maxHeartbeats 1000000
namespace My
open PySem PySem.Spec PyProof.Rows L2
local macro_rules | `(tactic| walk_at "len") => `(tactic| first | assumption | omega | decide | (simp only [List.length_append, List.length_take, List.length_drop, List.length_cons, List.length_nil, List.length_replicate]; omega))
local macro_rules | `(tactic| walk_at "side") => `(tactic| first | assumption | exact Nat.zero_le _ | decide | omega)
local macro_rules | `(tactic| walk_at "rd1") => `(tactic| first
  | with_reducible refine s_seq ?_
  | with_reducible refine x_gsub ?_
  | with_reducible refine s_asg ?_
  | ((with_reducible refine s_gn ?_); dsimp only [List.set])
  | ((with_reducible refine x_var (v := ?rdv) ?rdhv ?_); (case rdhv => rfl))
  | with_reducible refine x_c ?_
  | with_reducible refine x_op ?_
  | with_reducible refine x_cons ?_
  | with_reducible refine x_nil ?_
  | with_reducible refine x_cb ?_
  | with_reducible refine x_call ?_
  | with_reducible refine x_callS ?_
  | with_reducible refine x_revT ?_
  | with_reducible refine x_dget ?_
  | with_reducible refine x_makeS ?_
  | with_reducible refine x_make ?_
  | with_reducible refine x_makeKS ?_
  | with_reducible refine x_methS ?_
  | with_reducible refine x_meth ?_
  | with_reducible refine x_methK ?_
  | with_reducible refine x_fld ?_
  | with_reducible refine s_fld ?_
  | with_reducible refine f_rt ?_
  | with_reducible refine f_zm ?_
  | with_reducible refine c_zm ?_
  | with_reducible refine x_din ?_
  | with_reducible refine x_dnotin ?_
  | with_reducible refine s_dput ?_
  | with_reducible refine x_dnew ?_
  | with_reducible refine s_try ?_
  | with_reducible refine s_raise ?_
  | with_reducible refine s_if ?_
  | with_reducible refine s_ret ?_
  | with_reducible refine s_retN ?_
  | with_reducible refine s_next ?_
  | with_reducible refine s_brk ?_
  | with_reducible refine s_cont ?_
  | with_reducible refine s_drop ?_
  | with_reducible refine s_par ?_
  | with_reducible refine s_par3 ?_
  | ((with_reducible refine s_p2 ?_); dsimp only [List.set])
  | ((with_reducible refine s_p3 ?_); dsimp only [List.set])
  | with_reducible refine f_r1 ?_
  | with_reducible refine f_r2 ?_
  | with_reducible refine f_l ?_
  | with_reducible refine f_t ?_
  | with_reducible refine f_s ?_
  | with_reducible refine c_r1 ?_
  | with_reducible refine c_r2 ?_
  | with_reducible refine c_l ?_
  | with_reducible refine c_t ?_
  | with_reducible refine c_s ?_
  | with_reducible refine x_tst ?_
  | with_reducible refine x_tru ?_
  | with_reducible refine x_truB ?_
  | with_reducible refine x_bl2 ?_
  | with_reducible refine x_int ?_
  | with_reducible refine x_str ?_
  | with_reducible refine x_not ?_
  | with_reducible refine x_and ?_
  | with_reducible refine x_or ?_
  | with_reducible refine x_andV ?_
  | with_reducible refine x_orV ?_
  | with_reducible refine x_notV ?_
  | with_reducible refine x_if ?_
  | with_reducible refine x_yes ?_
  | with_reducible refine x_un ?_
  | with_reducible refine x_tup ?_
  | with_reducible refine x_lst ?_
  | with_reducible refine x_callK ?_
  | with_reducible refine x_callK0 ?_
  | with_reducible refine x_bm ?_
  | with_reducible refine x_bm0 ?_
  | with_reducible refine x_tyS ?_
  | with_reducible refine x_sl ?_
  | with_reducible refine x_nopart ?_
  | with_reducible refine x_part ?_
  | with_reducible refine x_fmt0 ?_
  | with_reducible refine x_gc ?_
  | with_reducible refine x_gz ?_
  | with_reducible refine x_ckw ?_
  | with_reducible refine x_fmt ?_
  | with_reducible refine x_chain ?_
  | with_reducible refine a_ii ?_
  | ((with_reducible refine sl_to ?rda ?rdb ?_); (case rda => walk_at "len"); (case rdb => walk_at "len"))
  | ((with_reducible refine sl_from ?rda ?rdb ?_); (case rda => walk_at "len"); (case rdb => walk_at "len"))
  | ((with_reducible refine sl_mid ?rda ?rdb ?rdc ?_); (case rda => walk_at "len"); (case rdb => walk_at "len"); (case rdc => walk_at "len"))
  | ((with_reducible refine a_SS ?rda ?_); (case rda => walk_at "len"))
  | ((with_reducible refine ln_S ?rda ?_); (case rda => walk_at "len"))
  | with_reducible refine e_SS ?_
  | with_reducible refine ne_SS ?_
  | with_reducible refine s_ii ?_
  | ((with_reducible refine md_ii ?rdc ?_); (case rdc => first | decide | assumption | omega))
  | with_reducible refine n_i ?_
  | with_reducible refine e_ii ?_
  | with_reducible refine e_bb ?_
  | with_reducible refine ne_ii ?_
  | with_reducible refine ne_bb ?_
  | with_reducible refine lt_ii ?_
  | with_reducible refine lt_ss ?_
  | with_reducible refine le_ii ?_
  | with_reducible refine le_ss ?_
  | with_reducible refine gt_ii ?_
  | with_reducible refine gt_ss ?_
  | with_reducible refine ge_ii ?_
  | with_reducible refine e_ss ?_
  | with_reducible refine ne_ss ?_
  | with_reducible refine is_N ?_
  | with_reducible refine is_T ?_
  | with_reducible refine is_B ?_
  | with_reducible refine isn_N ?_
  | with_reducible refine isn_T ?_
  | with_reducible refine isn_B ?_
  | with_reducible refine in_s ?_
  | with_reducible refine nin_s ?_
  | with_reducible refine i_i ?_
  | with_reducible refine i_b ?_
  | with_reducible refine ab_i ?_
  | with_reducible refine mx_ii ?_
  | with_reducible refine mn_ii ?_
  | with_reducible refine ty_N ?_
  | with_reducible refine ty_B ?_
  | with_reducible refine ty_I ?_
  | with_reducible refine ty_S ?_
  | with_reducible refine ma_s ?_
  | with_reducible refine mp_s ?_
  | with_reducible refine mdg_s ?_
  | with_reducible refine mal_s ?_
  | with_reducible refine mlo_s ?_
  | with_reducible refine c_er ?_
  | with_reducible refine c_es ?_
  | with_reducible refine mf_s ?_
  | with_reducible refine iteT ?_
  | with_reducible refine iteF ?_
  | with_reducible refine iteNt ?_
  | with_reducible refine iteNf ?_
  | with_reducible refine iteTd (by decide) ?_
  | with_reducible refine iteFd (by decide) ?_
  | with_reducible refine iteNd (by decide) ?_
  | with_reducible refine iteNdF (by decide) ?_
  | ((with_reducible refine iteFd ?rdn ?_); (case rdn => (intro rdz; cases rdz; done)))
  | ((with_reducible refine iteNdF ?rdn ?_); (case rdn => (intro rdz; cases rdz; done))))
local macro_rules | `(tactic| walk_at "rd") => `(tactic| (repeat walk_at "rd1"))
local macro_rules | `(tactic| walk_at "gec") => `(tactic| first
  | exact GE.mono GE.cn (Nat.zero_le _) (by decide) (by decide)
  | exact GE.mono GE.cb (Nat.zero_le _) (by decide) (by decide)
  | exact GE.mono (GE.ci (by decide)) (Nat.zero_le _) (by decide) (by decide)
  | exact GE.mono (GE.cs (by decide +kernel) (by decide +kernel)) (Nat.zero_le _) (by decide) (by decide)
  | exact GE.mono (GE.in (rd_n rd_c) (by decide)) (Nat.zero_le _) (by decide) (by decide)
  | exact GE.mono (GE.in (rd_p ⟨by decide, by decide, by decide⟩) (by decide)) (Nat.zero_le _) (by decide) (by decide))
theorem GL.cons0 {K : PySem.W.Frag} {j : Addr} {M : List Addr} {H0 : Hp} {σ : L2.St} {k W c n : Nat} {e : TE} {r : TA} (h : GE K j M H0 σ k W 0 e) (h2 : GL K j M H0 σ n k W c r) : GL K j M H0 σ (n + 1) k W c (tCons e r) := by
  have := GL.cons h h2
  rw [Nat.zero_add] at this
  exact this
theorem GL.cons1 {K : PySem.W.Frag} {j : Addr} {M : List Addr} {H0 : Hp} {σ : L2.St} {k W c n : Nat} {e : TE} {r : TA} (h : GE K j M H0 σ k W 1 e) (h2 : GL K j M H0 σ n k W c r) : GL K j M H0 σ (n + 1) k W (c + 1) (tCons e r) := by
  have := GL.cons h h2
  rw [Nat.add_comm 1 c] at this
  exact this
theorem GE.tq {K : PySem.W.Frag} {j : Addr} {M : List Addr} {H0 : Hp} {σ : L2.St} {n : Nat} {r : TA} (h : GL K j M H0 σ n 0 140 0 r) (hn : n ≤ 3) : GE K j M H0 σ 2 500 0 (tTup r) := (GE.tp h (by omega)).mono (by decide) (by omega) (by decide)
theorem GE.lq {K : PySem.W.Frag} {j : Addr} {M : List Addr} {H0 : Hp} {σ : L2.St} {n : Nat} {r : TA} (h : GL K j M H0 σ n 0 140 0 r) (hn : n ≤ 3) : GE K j M H0 σ 2 500 0 (tLst r) := (GE.ls h (by omega)).mono (by decide) (by omega) (by decide)
theorem GE.tr {K : PySem.W.Frag} {j : Addr} {M : List Addr} {H0 : Hp} {σ : L2.St} {n : Nat} {r : TA} (h : GL K j M H0 σ n 0 140 0 r) (hn : n ≤ 1) : GE K j M H0 σ 1 146 0 (tTup r) := (GE.tp h (by omega)).mono (by decide) (by omega) (by decide)
local macro_rules | `(tactic| walk_at "glc") => `(tactic| (repeat (first
  | exact GL.nil
  | ((refine GL.cons0 ?_ ?_); focus walk_at "gec"))))
local macro_rules | `(tactic| walk_at "get") => `(tactic| first
  | walk_at "gec"
  | ((refine GE.tq (n := 2) ?_ (by decide)); walk_at "glc"; done)
  | ((refine GE.lq (n := 2) ?_ (by decide)); walk_at "glc"; done)
  | ((refine GE.tq (n := 0) ?_ (by decide)); walk_at "glc"; done)
  | ((refine GE.lq (n := 0) ?_ (by decide)); walk_at "glc"; done)
  | ((refine GE.tq (n := 1) ?_ (by decide)); walk_at "glc"; done)
  | ((refine GE.lq (n := 1) ?_ (by decide)); walk_at "glc"; done)
  | ((refine GE.tq (n := 3) ?_ (by decide)); walk_at "glc"; done)
  | ((refine GE.lq (n := 3) ?_ (by decide)); walk_at "glc"; done))
local macro_rules | `(tactic| walk_at "glt") => `(tactic| (repeat (first
  | exact GL.nil
  | ((refine GL.cons0 ?_ ?_); focus walk_at "get"))))
section
variable {P : Program} {w : World} {K : PySem.W.Frag} {mg : Str → Option Value} {base : Heap}
theorem ok_odd (Y : Fx K mg) : FnOk P w K mg base CX0 2 Y.a__law_odd Y.fd__law_odd ["_law_well_here"] (sp_odd K) := by
  refine Y.F__law_odd.ok sc__law_odd (fun vs H Q E h => ?_) (fun cdv A outer st H vs Q E hr h => ?_)
  · obtain ⟨j, M, t, rfl, _⟩ := h
    rfl
  · obtain ⟨j, M, t, rfl, hW, ht, q⟩ := h
    refine ⟨_, b__law_odd Y (ok_dip Y) hr, ?_⟩
    show t__law_odd K _ _ [some (.ref j), none] H
    unfold t__law_odd
    refine s_seq (s_asg (x_lst ?_))
    refine (show GL K j M H [some (.ref j), none] 16 2 500 0 _ from ?_) H t _ (Fr.refl H) hW (by omega) fun xs ds H1 l1 d1 g1 a1 b1 => ⟨by rw [l1]; decide, fun p hp => s_gn ?_⟩
    · walk_at "glt"
    · have b2 := b1.same (same_upd (o := .lst xs) hp)
      have a2 := a1.new (o := .lst xs) hp
      have u2 : (upd H1 p (.lst xs)) p = some (.lst xs) := upd_same
      have d2 := new_dps (o := .lst xs) d1 hp
      have o2 := off1 b1.1 hp
      show tSeq _ _ _ _ (upd H1 p (.lst xs))
      generalize upd H1 p (.lst xs) = H2 at a2 b2 u2 d2
      refine s_seq (s_asg (x_op (x_var rfl (x_lst ?_))))
      refine (show GL K j M H2 [some (.ref j), some (.ref p)] 8 2 500 0 _ from ?_) H2 t _ (Fr.refl H2) b2 (by omega) fun ys es H3 l3 d3 g3 a3 b3 => ⟨by rw [l3]; decide, fun p3 hp3 => ?_⟩
      · refine GL.cons0 (by walk_at "get") (GL.cons0 (by walk_at "get") (GL.cons0 (by walk_at "get") (GL.cons0 ?_ (GL.cons0 (by walk_at "get") (GL.cons0 (by walk_at "get") (GL.cons0 (by walk_at "get") (GL.cons0 (by walk_at "get") GL.nil)))))))
        refine GE.mono (GE.tp (n := 2) (k := 1) (W := 146) (c := 0) ?_ (by decide)) (by decide) (by decide) (by decide)
        refine GL.cons0 (by walk_at "gec") (GL.cons0 ?_ GL.nil)
        refine GE.tr (n := 1) ?_ (by decide)
        walk_at "glc"
      · have b4 := b3.same (same_upd (o := .lst ys) hp3)
        have a4 := a3.new (o := .lst ys) hp3
        have d4 := new_dps (o := .lst ys) d3 hp3
        refine a_ll (a4 _ _ o2 u2) upd_same (by rw [l1, l3]; decide) fun l hl => ?_
        refine s_gn ?_
        have hd := dpa_app (dps_fr d2 a4) d4
        have b5 := b4.same (same_upd (o := .lst (xs ++ ys)) hl)
        refine s_ret (x_op (x_var rfl (x_call (x_cons (x_var rfl (x_cons (x_c (x_nil ?_))))))))
        refine ⟨j, 24, t, rfl, b5.1, by omega, by decide, by decide, fun z H6 z0 z1 b6 a6 => ?_⟩
        replace b6 := b5.dip b6 a6
        have d6 := dps_fr (new_dps (o := .lst (xs ++ ys)) hd hl) a6
        have hlen := dpAll_len hd
        rw [List.length_append, l1, l3] at hlen
        have hz : z.toNat < (ds ++ es).length := by omega
        obtain ⟨v, e1, dv⟩ := dpAll_get d6 hz
        have e3 : z = ((z.toNat : Nat) : Int) := by omega
        refine ix_L (lst_of (a6 _ _ (off1 b4.1 hl) upd_same)) (by rw [e3]; exact atI_nat e1) ?_
        refine q v _ H6 (((a2.trans a4).new hl).trans a6) b6 dv ?_
        rcases List.mem_append.mp (List.getElem_mem hz) with h | h
        · exact g1 _ h
        · exact g3 _ h
/-! a part in the place of another -/
theorem GT.ret {j : Addr} {M : List Addr} {H0 : Hp} {σ : L2.St} {k W c : Nat} {e : TE} {t : Nat} {n b kk : L2.St → Hp → Prop} {rt : VK} (h : GT K j M H0 σ k W c e) (hW : Wl M H0 j t) (ht : t + c ≤ 900000000) (q : ∀ x ds H', Fr [j] H0 H' → Wl M H' j (t + c) → Dp K (ms (j :: M) H') x (.tuple ds) → Gds k W ds → rt x H') : tRet e ⟨n, rt, b, kk⟩ σ H0 := s_ret (h H0 t _ (Fr.refl H0) hW ht q)
theorem GT.set {j : Addr} {M : List Addr} {H0 : Hp} {σ : L2.St} {k W c i : Nat} {e : TE} {r : TS} {t : Nat} {n b kk : L2.St → Hp → Prop} {rt : VK} (h : GT K j M H0 σ k W c e) (hW : Wl M H0 j t) (ht : t + c ≤ 900000000) (q : ∀ x ds H', Fr [j] H0 H' → Wl M H' j (t + c) → Dp K (ms (j :: M) H') x (.tuple ds) → Gds k W ds → r ⟨n, rt, b, kk⟩ (σ.set i (some x)) H') : tSeq (tAsg e (gName i)) r ⟨n, rt, b, kk⟩ σ H0 := s_seq (s_asg (h H0 t _ (Fr.refl H0) hW ht fun x ds H' a1 a2 a3 a4 => s_gn (q x ds H' a1 a2 a3 a4)))
def sp_put (K : PySem.W.Frag) : Sp := fun vs H Q _ => ∃ (j : Addr) (M : List Addr) (t : Nat) (x : V) (ds : List PyData) (i : Int) (y : V) (d : PyData) (k W W2 : Nat), vs = [x, .int i, y] ∧ Wl M H j t ∧ t ≤ 900000000 ∧ Dp K (ms (j :: M) H) x (.tuple ds) ∧ Gds k W ds ∧ Dp K (ms (j :: M) H) y d ∧ Gd k W2 d ∧ W ≤ 500000 ∧ W2 ≤ 500000 ∧
  ∀ z es H', Fr [j] H H' → Wl M H' j t → Dp K (ms (j :: M) H') z (.tuple es) → Gds k (W + (W2 + 2) * 1 + W) es → Q z H'
theorem ok_put (Y : Fx K mg) : FnOk P w K mg base CX0 1 Y.a__law_put Y.fd__law_put ["_law_value", "_law_at", "_law_part"] (sp_put K) := by
  refine Y.F__law_put.ok sc__law_put (fun vs H Q E h => ?_) (fun cdv A outer st H vs Q E hr h => ?_)
  · obtain ⟨j, M, t, x, ds, i, y, d, k, W, W2, rfl, _⟩ := h
    rfl
  · obtain ⟨j, M, t, x, ds, i, y, d, k, W, W2, rfl, hW, ht, hx, hg, hy, hy2, w1, w2, q⟩ := h
    refine ⟨_, b__law_put Y hr, ?_⟩
    show t__law_put K _ [some x, some (.int i), some y] H
    unfold t__law_put
    refine GT.ret (k := k) (W := W + (W2 + 2) * 1 + W) (c := 0) (GT.mono (GT.ap (GT.ap (GT.sl (GT.va (i := 0) rfl hx hg) GO.no (GO.in (rd_v (i := 1) rfl))) (GT.tp (n := 1) (GL.cons0 (GE.va (i := 2) rfl hy hy2) GL.nil) (by decide)) (by omega)) (GT.sl (GT.va (i := 0) rfl hx hg) (GO.in (rd_a (rd_v (i := 1) rfl) rd_c)) GO.no) (by omega)) (Nat.le_refl _) (Nat.le_refl _) (by decide)) hW ht q
variable {j : Addr} {M : List Addr} {H0 : Hp} {σ : L2.St} {k W c : Nat}
theorem GT.put {W2 c2 : Nat} {e ti ey : TE} {z : Int} (h : GT K j M H0 σ k W c e) (hz : ∀ (H : Hp) (Q : VK), Q (.int z) H → ti σ H Q) (hy : GE K j M H0 σ k W2 c2 ey) (w1 : W ≤ 500000) (w2 : W2 ≤ 500000) : GT K j M H0 σ k (W + (W2 + 2) * 1 + W) (c + c2) (tCall (sp_put K) [] E0 (tCons e (tCons ti (tCons ey tNil)))) := fun H t Q hF hW ht q => by
  refine x_call (x_cons (h H t _ hF hW (by omega) fun x ds H1 a1 b1 d1 g1 => ?_))
  refine x_cons (hz H1 _ (x_cons (hy H1 _ _ (hF.trans a1) b1 (by omega) fun y d H2 a2 b2 d2 g2 => x_nil ?_)))
  exact ⟨j, M, _, x, ds, z, y, d, k, W, W2, rfl, b2, by omega, dp_fr d1 a2, g1, d2, g2, w1, w2, fun z es H' a3 b3 d3 g3 => q z es H' ((a1.trans a2).trans a3) (b3.mono (by omega)) d3 g3⟩
/-! rows with something else among them -/
def sp_oddr (K : PySem.W.Frag) : Sp := fun vs H Q _ => ∃ (j : Addr) (M : List Addr) (t : Nat) (x : V) (ds : List PyData), vs = [.ref j, x] ∧ Wl M H j t ∧ t + 10 ≤ 900000000 ∧ Dp K (ms (j :: M) H) x (.tuple ds) ∧ Gds 3 6500 ds ∧
  ∀ z d H', Fr [j] H H' → Wl M H' j (t + 10) → Dp K (ms (j :: M) H') z d → Gd 4 27100 d → Q z H'
theorem ok_oddr (Y : Fx K mg) : FnOk P w K mg base CX0 3 Y.a__law_odd_rows Y.fd__law_odd_rows ["_law_well_here", "_law_rows"] (sp_oddr K) := by
  refine Y.F__law_odd_rows.ok sc__law_odd_rows (fun vs H Q E h => ?_) (fun cdv A outer st H vs Q E hr h => ?_)
  · obtain ⟨j, M, t, x, ds, rfl, _⟩ := h
    rfl
  · obtain ⟨j, M, t, x, ds, rfl, hW, ht, hx, hg, q⟩ := h
    refine ⟨_, b__law_odd_rows Y (ok_dip Y) (ok_odd Y) hr, ?_⟩
    show t__law_odd_rows K _ _ _ [some (.ref j), some x, none, none, none] H
    unfold t__law_odd_rows
    have hlen := shs_len ds
    have hw := hg.3
    obtain ⟨p, us, rfl, hs, ha⟩ := dp_tup' hx
    have hl := dpAll_len ha
    walk_at "rd"
    refine ln_t (sqt_of hs) ?_
    walk_at "rd"
    refine ⟨j, _, t, rfl, hW.1, by omega, by omega, by omega, fun r H1 r0 r1 b1 a1 => ?_⟩
    replace b1 := hW.dip b1 a1
    refine s_gn ?_
    have hx1 := dp_fr hx a1
    refine GT.set (k := 3) (W := 13502) (c := 2) (GT.mono (GT.ap (GT.ap (GT.sl (GT.va (i := 1) rfl hx1 hg) GO.no (GO.in (rd_v (i := 2) rfl))) (GT.tp (n := 1) (GL.cons1 (GE.mono (GE.odd (i := 0) rfl) (by decide) (Nat.le_refl 500) (by decide)) GL.nil) (by decide)) (by decide)) (GT.sl (GT.va (i := 1) rfl hx1 hg) (GO.dp (rd_v (i := 2) rfl) (i := 0) rfl (by decide) (by decide)) GO.no) (by decide)) (by decide) (by decide) (by decide)) b1 (by omega) fun y es H2 a2 b2 d2 g2 => ?_
    have hx2 := dp_fr hx1 a2
    refine GT.set (k := 3) (W := 13000) (c := 0) (GT.ap (GT.sl (GT.va (i := 1) rfl hx2 hg) (GO.in (rd_n rd_c)) GO.no) (GT.sl (GT.va (i := 1) rfl hx2 hg) GO.no (GO.in (rd_n rd_c))) (by decide)) b2 (by omega) fun y2 es2 H3 a3 b3 d3 g3 => ?_
    have hx3 := dp_fr hx2 a3
    have d23 := dp_fr d2 a3
    refine GE.ret (GE.mono (GE.pk (n := 7) (c := 1) (k := 4) (W := 27100) ?_ rfl (i := 0) rfl (by decide) (by decide)) (Nat.le_refl _) (Nat.le_refl _) (Nat.le_refl _)) b3 (by omega) (fun z d H' a4 b4 d4 g4 => q z d H' (((a1.trans a2).trans a3).trans a4) (b4.mono (by omega)) d4 g4)
    have va := GT.va (σ := [some (.ref j), some (.ref p), some (.int r), some y, some y2]) (i := 1) rfl hx3 hg
    have vb := GT.va (σ := [some (.ref j), some (.ref p), some (.int r), some y, some y2]) (i := 3) rfl d23 g2
    have vc := GT.va (σ := [some (.ref j), some (.ref p), some (.int r), some y, some y2]) (i := 4) rfl d3 g3
    refine GL.cons0 (GE.mono vb.ge (by decide) (by decide) (by decide)) ?_
    refine GL.cons0 (GE.mono (GE.li va) (by decide) (by decide) (by decide)) ?_
    refine GL.cons0 (GE.mono (GT.ap va (GT.sl va GO.no (GO.in rd_c)) (by decide)).ge (by decide) (by decide) (by decide)) ?_
    refine GL.cons0 (GE.mono vc.ge (by decide) (by decide) (by decide)) ?_
    refine GL.cons0 (GE.mono va.rv.ge (by decide) (by decide) (by decide)) ?_
    refine GL.cons1 (GE.mono (GE.odd (i := 0) rfl) (by decide) (by decide) (by decide)) ?_
    refine GL.cons0 (GE.mono (GT.ap vb (GT.sl vb GO.no (GO.in rd_c)) (by decide)).ge (by decide) (by decide) (by decide)) GL.nil
end
end My

set_option Elab.async false
set_option linter.all false
set_option maxRecDepth 100000
set_option maxHeartbeats 1000000
namespace My
open PySem PySem.Spec PyProof.Rows L2
local macro_rules | `(tactic| walk_at "len") => `(tactic| first | assumption | omega | decide | (simp only [List.length_append, List.length_take, List.length_drop, List.length_cons, List.length_nil, List.length_replicate]; omega))
local macro_rules | `(tactic| walk_at "side") => `(tactic| first | assumption | exact Nat.zero_le _ | decide | omega)
local macro_rules | `(tactic| walk_at "rd1") => `(tactic| first
  | with_reducible refine s_seq ?_
  | with_reducible refine x_gsub ?_
  | with_reducible refine s_asg ?_
  | ((with_reducible refine s_gn ?_); dsimp only [List.set])
  | ((with_reducible refine x_var (v := ?rdv) ?rdhv ?_); (case rdhv => rfl))
  | with_reducible refine x_c ?_
  | with_reducible refine x_op ?_
  | with_reducible refine x_cons ?_
  | with_reducible refine x_nil ?_
  | with_reducible refine x_cb ?_
  | with_reducible refine x_call ?_
  | with_reducible refine x_callS ?_
  | with_reducible refine x_revT ?_
  | with_reducible refine x_dget ?_
  | with_reducible refine x_makeS ?_
  | with_reducible refine x_make ?_
  | with_reducible refine x_makeKS ?_
  | with_reducible refine x_methS ?_
  | with_reducible refine x_meth ?_
  | with_reducible refine x_methK ?_
  | with_reducible refine x_fld ?_
  | with_reducible refine s_fld ?_
  | with_reducible refine f_rt ?_
  | with_reducible refine f_zm ?_
  | with_reducible refine c_zm ?_
  | with_reducible refine x_din ?_
  | with_reducible refine x_dnotin ?_
  | with_reducible refine s_dput ?_
  | with_reducible refine x_dnew ?_
  | with_reducible refine s_try ?_
  | with_reducible refine s_raise ?_
  | with_reducible refine s_if ?_
  | with_reducible refine s_ret ?_
  | with_reducible refine s_retN ?_
  | with_reducible refine s_next ?_
  | with_reducible refine s_brk ?_
  | with_reducible refine s_cont ?_
  | with_reducible refine s_drop ?_
  | with_reducible refine s_par ?_
  | with_reducible refine s_par3 ?_
  | ((with_reducible refine s_p2 ?_); dsimp only [List.set])
  | ((with_reducible refine s_p3 ?_); dsimp only [List.set])
  | with_reducible refine f_r1 ?_
  | with_reducible refine f_r2 ?_
  | with_reducible refine f_l ?_
  | with_reducible refine f_t ?_
  | with_reducible refine f_s ?_
  | with_reducible refine c_r1 ?_
  | with_reducible refine c_r2 ?_
  | with_reducible refine c_l ?_
  | with_reducible refine c_t ?_
  | with_reducible refine c_s ?_
  | with_reducible refine x_tst ?_
  | with_reducible refine x_tru ?_
  | with_reducible refine x_truB ?_
  | with_reducible refine x_bl2 ?_
  | with_reducible refine x_int ?_
  | with_reducible refine x_str ?_
  | with_reducible refine x_not ?_
  | with_reducible refine x_and ?_
  | with_reducible refine x_or ?_
  | with_reducible refine x_andV ?_
  | with_reducible refine x_orV ?_
  | with_reducible refine x_notV ?_
  | with_reducible refine x_if ?_
  | with_reducible refine x_yes ?_
  | with_reducible refine x_un ?_
  | with_reducible refine x_tup ?_
  | with_reducible refine x_lst ?_
  | with_reducible refine x_callK ?_
  | with_reducible refine x_callK0 ?_
  | with_reducible refine x_bm ?_
  | with_reducible refine x_bm0 ?_
  | with_reducible refine x_tyS ?_
  | with_reducible refine x_sl ?_
  | with_reducible refine x_nopart ?_
  | with_reducible refine x_part ?_
  | with_reducible refine x_fmt0 ?_
  | with_reducible refine x_gc ?_
  | with_reducible refine x_gz ?_
  | with_reducible refine x_ckw ?_
  | with_reducible refine x_fmt ?_
  | with_reducible refine x_chain ?_
  | with_reducible refine a_ii ?_
  | ((with_reducible refine sl_to ?rda ?rdb ?_); (case rda => walk_at "len"); (case rdb => walk_at "len"))
  | ((with_reducible refine sl_from ?rda ?rdb ?_); (case rda => walk_at "len"); (case rdb => walk_at "len"))
  | ((with_reducible refine sl_mid ?rda ?rdb ?rdc ?_); (case rda => walk_at "len"); (case rdb => walk_at "len"); (case rdc => walk_at "len"))
  | ((with_reducible refine a_SS ?rda ?_); (case rda => walk_at "len"))
  | ((with_reducible refine ln_S ?rda ?_); (case rda => walk_at "len"))
  | with_reducible refine e_SS ?_
  | with_reducible refine ne_SS ?_
  | with_reducible refine s_ii ?_
  | ((with_reducible refine md_ii ?rdc ?_); (case rdc => first | decide | assumption | omega))
  | with_reducible refine n_i ?_
  | with_reducible refine e_ii ?_
  | with_reducible refine e_bb ?_
  | with_reducible refine ne_ii ?_
  | with_reducible refine ne_bb ?_
  | with_reducible refine lt_ii ?_
  | with_reducible refine lt_ss ?_
  | with_reducible refine le_ii ?_
  | with_reducible refine le_ss ?_
  | with_reducible refine gt_ii ?_
  | with_reducible refine gt_ss ?_
  | with_reducible refine ge_ii ?_
  | with_reducible refine e_ss ?_
  | with_reducible refine ne_ss ?_
  | with_reducible refine is_N ?_
  | with_reducible refine is_T ?_
  | with_reducible refine is_B ?_
  | with_reducible refine isn_N ?_
  | with_reducible refine isn_T ?_
  | with_reducible refine isn_B ?_
  | with_reducible refine in_s ?_
  | with_reducible refine nin_s ?_
  | with_reducible refine i_i ?_
  | with_reducible refine i_b ?_
  | with_reducible refine ab_i ?_
  | with_reducible refine mx_ii ?_
  | with_reducible refine mn_ii ?_
  | with_reducible refine ty_N ?_
  | with_reducible refine ty_B ?_
  | with_reducible refine ty_I ?_
  | with_reducible refine ty_S ?_
  | with_reducible refine ma_s ?_
  | with_reducible refine mp_s ?_
  | with_reducible refine mdg_s ?_
  | with_reducible refine mal_s ?_
  | with_reducible refine mlo_s ?_
  | with_reducible refine c_er ?_
  | with_reducible refine c_es ?_
  | with_reducible refine mf_s ?_
  | with_reducible refine iteT ?_
  | with_reducible refine iteF ?_
  | with_reducible refine iteNt ?_
  | with_reducible refine iteNf ?_
  | with_reducible refine iteTd (by decide) ?_
  | with_reducible refine iteFd (by decide) ?_
  | with_reducible refine iteNd (by decide) ?_
  | with_reducible refine iteNdF (by decide) ?_
  | ((with_reducible refine iteFd ?rdn ?_); (case rdn => (intro rdz; cases rdz; done)))
  | ((with_reducible refine iteNdF ?rdn ?_); (case rdn => (intro rdz; cases rdz; done))))
local macro_rules | `(tactic| walk_at "rd") => `(tactic| (repeat walk_at "rd1"))
local macro_rules | `(tactic| walk_at "gec") => `(tactic| first
  | exact GE.mono GE.cn (Nat.zero_le _) (by decide) (by decide)
  | exact GE.mono GE.cb (Nat.zero_le _) (by decide) (by decide)
  | exact GE.mono (GE.ci (by decide)) (Nat.zero_le _) (by decide) (by decide)
  | exact GE.mono (GE.cs (by decide +kernel) (by decide +kernel)) (Nat.zero_le _) (by decide) (by decide)
  | exact GE.mono (GE.in (rd_n rd_c) (by decide)) (Nat.zero_le _) (by decide) (by decide)
  | exact GE.mono (GE.in (rd_p ⟨by decide, by decide, by decide⟩) (by decide)) (Nat.zero_le _) (by decide) (by decide))
local macro_rules | `(tactic| walk_at "glc") => `(tactic| (repeat (first
  | exact GL.nil
  | ((refine GL.cons0 ?_ ?_); focus walk_at "gec"))))
local macro_rules | `(tactic| walk_at "get") => `(tactic| first
  | walk_at "gec"
  | ((refine GE.tq (n := 2) ?_ (by decide)); walk_at "glc"; done)
  | ((refine GE.lq (n := 2) ?_ (by decide)); walk_at "glc"; done)
  | ((refine GE.tq (n := 0) ?_ (by decide)); walk_at "glc"; done)
  | ((refine GE.lq (n := 0) ?_ (by decide)); walk_at "glc"; done)
  | ((refine GE.tq (n := 1) ?_ (by decide)); walk_at "glc"; done)
  | ((refine GE.lq (n := 1) ?_ (by decide)); walk_at "glc"; done)
  | ((refine GE.tq (n := 3) ?_ (by decide)); walk_at "glc"; done)
  | ((refine GE.lq (n := 3) ?_ (by decide)); walk_at "glc"; done))
local macro_rules | `(tactic| walk_at "glt") => `(tactic| (repeat (first
  | exact GL.nil
  | ((refine GL.cons0 ?_ ?_); focus walk_at "get"))))
section
variable {P : Program} {w : World} {K : PySem.W.Frag} {mg : Str → Option Value} {base : Heap}
/-! a note with something else in it -/
def NoS (ds : List PyData) : Prop := Gds 3 6500 ds ∧ (ds.length = 3 ∨ ∃ a b c es, ds = [a, b, c, .tuple es])
def sp_oddn (K : PySem.W.Frag) : Sp := fun vs H Q _ => ∃ (j : Addr) (M : List Addr) (t : Nat) (x : V) (ds : List PyData), vs = [.ref j, x] ∧ Wl M H j t ∧ t + 15 ≤ 900000000 ∧ Dp K (ms (j :: M) H) x (.tuple ds) ∧ NoS ds ∧
  ∀ z d H', Fr [j] H H' → Wl M H' j (t + 15) → Dp K (ms (j :: M) H') z d → Gd 5 40200 d → Q z H'
theorem ok_oddn (Y : Fx K mg) : FnOk P w K mg base CX0 4 Y.a__law_odd_note Y.fd__law_odd_note ["_law_well_here", "_law_note_here"] (sp_oddn K) := by
  refine Y.F__law_odd_note.ok sc__law_odd_note (fun vs H Q E h => ?_) (fun cdv A outer st H vs Q E hr h => ?_)
  · obtain ⟨j, M, t, x, ds, rfl, _⟩ := h
    rfl
  · obtain ⟨j, M, t, x, ds, rfl, hW, ht, hx, ⟨hg, hsh⟩, q⟩ := h
    refine ⟨_, b__law_odd_note Y (ok_dip Y) (ok_odd Y) (ok_oddr Y) (ok_put Y) hr, ?_⟩
    show t__law_odd_note K _ _ _ _ _ [some (.ref j), some x, none] H
    unfold t__law_odd_note
    walk_at "rd"
    refine ⟨j, 6, t, rfl, hW.1, by omega, by decide, by decide, fun r H1 r0 r1 b1 a1 => ?_⟩
    replace b1 := hW.dip b1 a1
    have hx1 := dp_fr hx a1
    have va : GT K j M H1 [some (.ref j), some x, some (.int r)] 3 6500 0 (tVar 1) := GT.va (i := 1) rfl hx1 hg
    have fin : ∀ {c : Nat} {e : TE} {n b kk : L2.St → Hp → Prop}, GE K j M H1 [some (.ref j), some x, some (.int r)] 5 40200 c e → c ≤ 14 → tRet e ⟨n, Q, b, kk⟩ [some (.ref j), some x, some (.int r)] H1 := fun {c} {e} {n} {b} {kk} h hc => GE.ret (GE.mono h (Nat.le_refl _) (Nat.le_refl _) hc) b1 (by omega) (fun z d H' a4 b4 d4 g4 => q z d H' (a1.trans a4) (b4.mono (by omega)) d4 g4)
    walk_at "rd"
    refine ite2' (fun e => ?_) (fun e => ?_)
    · refine fin (GE.pk (n := 6) (c := 1) ?_ rfl (i := 0) rfl (by decide) (by decide)) (by decide)
      refine GL.cons0 (GE.mono (GE.li va) (by decide) (by decide) (by decide)) ?_
      refine GL.cons0 (GE.mono (GT.sl va GO.no (GO.in (rd_n rd_c))).ge (by decide) (by decide) (by decide)) ?_
      refine GL.cons0 (GE.mono (GT.ap va (GT.tp (n := 1) (GL.cons0 (GE.mono GE.cn (by decide) (Nat.le_refl 140) (Nat.le_refl _)) GL.nil) (by decide)) (by decide)).ge (by decide) (by decide) (by decide)) ?_
      refine GL.cons0 (GE.mono (GT.sl va (GO.in rd_c) GO.no).ge (by decide) (by decide) (by decide)) ?_
      refine GL.cons0 (GE.mono (GT.sl va GO.no (GO.in rd_c)).ge (by decide) (by decide) (by decide)) ?_
      exact GL.cons1 (GE.mono (GE.odd (i := 0) rfl) (by decide) (by decide) (by decide)) GL.nil
    · walk_at "rd"
      refine ite2' (fun e2 => ?_) (fun e2 => ?_)
      · refine fin (GE.mono (GT.put va rd_c (GE.mono (GE.pk (n := 7) (c := 0) (k := 2) (W := 500) ?_ rfl (i := 0) rfl (by decide) (by decide)) (by decide) (Nat.le_refl 500) (Nat.le_refl _)) (by decide) (by decide)).ge (by decide) (by decide) (Nat.le_refl _)) (by decide)
        walk_at "glt"
      · walk_at "rd"
        refine ite2' (fun e3 => ?_) (fun e3 => ?_)
        · exact fin (GE.mono (GT.put va rd_c (GE.mono (GE.odd (i := 0) rfl) (by decide) (Nat.le_refl 500) (Nat.le_refl _)) (by decide) (by decide)).ge (by decide) (by decide) (Nat.le_refl _)) (by decide)
        · have go3 : ∀ {n b kk : L2.St → Hp → Prop}, tRet (tCall (sp_put K) [] E0 (tCons (tVar 1) (tCons (tC (.int 2)) (tCons (tCall (sp_odd K) [] E0 (tCons (tVar 0) tNil)) tNil)))) ⟨n, Q, b, kk⟩ [some (.ref j), some x, some (.int r)] H1 := fun {n} {b} {kk} => fin (GE.mono (GT.put va rd_c (GE.mono (GE.odd (i := 0) rfl) (by decide) (Nat.le_refl 500) (Nat.le_refl _)) (by decide) (by decide)).ge (by decide) (by decide) (Nat.le_refl _)) (by decide)
          walk_at "rd"
          refine ite2' (fun e4 => ?_) (fun e4 => ?_)
          · refine iteT ?_
            exact go3
          · walk_at "rd"
            obtain ⟨p, us, rfl, hs, ha⟩ := dp_tup' hx1
            have hl := dpAll_len ha
            refine ln_t (sqt_of hs) ?_
            walk_at "rd"
            rw [hl]
            refine ite2' (fun e5 => ?_) (fun e5 => ?_)
            · exact go3
            · rcases hsh with h3 | ⟨a, b, c, es, rfl⟩
              · rw [h3] at e5
                cases e5
              · refine s_next ?_
                have gd := hg.mem (.tuple es) (by simp)
                have gx : GT K j M H1 [some (.ref j), some (.ref p), some (.int r)] 3 6500 0 (tOp (rIX K) (tVar 1) (tC (.int ((3 : Nat) : Int)))) := GT.ix (i := 1) (m := 3) rfl hx1 rfl ((Gd.un (k := 2) gd).mono (by decide) (Nat.le_refl _))
                have gr : GE K j M H1 [some (.ref j), some (.ref p), some (.int r)] 4 27100 10 (tCall (sp_oddr K) [] E0 (tCons (tVar 0) (tCons (tOp (rIX K) (tVar 1) (tC (.int ((3 : Nat) : Int)))) tNil))) := fun H t Q hF hW ht q => x_call (x_cons (x_var rfl (x_cons (gx H t _ hF hW (by omega) fun y es2 H2 a2 b2 d2 g2 => x_nil ⟨j, M, t, y, es2, rfl, b2, ht, d2, g2, fun z d H' a3 b3 d3 g3 => q z d H' (a2.trans a3) b3 d3 g3⟩))))
                have va4 : GT K j M H1 [some (.ref j), some (.ref p), some (.int r)] 4 6500 0 (tVar 1) := GT.mono va (by decide) (Nat.le_refl _) (Nat.le_refl _)
                exact fin (GE.mono (GT.put va4 rd_c gr (by decide) (by decide)).ge (Nat.le_refl _) (by decide) (Nat.le_refl _)) (by decide)
/-! a commit with something else in it -/
def sp_oddc (K : PySem.W.Frag) : Sp := fun vs H Q _ => ∃ (j : Addr) (M : List Addr) (t n : Nat) (x : V) (a b : PyData) (ns cs : List PyData), vs = [.ref j, x, .int n] ∧ Wl M H j t ∧ t + 30 ≤ 900000000 ∧ n ≤ 1000 ∧ Dp K (ms (j :: M) H) x (.tuple [a, b, .tuple ns, .tuple cs]) ∧ Gds 4 20600 [a, b, .tuple ns, .tuple cs] ∧
  (∀ d ∈ ns, ∃ ds, d = .tuple ds ∧ NoS ds) ∧ ns.length ≤ 3 ∧ Gds 3 19600 ns ∧ Gds 3 6500 cs ∧
  ∀ z d H', Fr [j] H H' → Wl M H' j (t + 30) → Dp K (ms (j :: M) H') z d → Gd 7 140000 d → Q z H'
theorem ok_oddc (Y : Fx K mg) : FnOk P w K mg base CX0 5 Y.a__law_odd_commit Y.fd__law_odd_commit ["_law_well_here", "_law_commit", "_law_number"] (sp_oddc K) := by
  refine Y.F__law_odd_commit.ok sc__law_odd_commit (fun vs H Q E h => ?_) (fun cdv A outer st H vs Q E hr h => ?_)
  · obtain ⟨j, M, t, n, x, a, b, ns, cs, rfl, _⟩ := h
    rfl
  · obtain ⟨j, M, t, n, x, a, b, ns, cs, rfl, hW, ht, hn, hx, hg, hns, hl3, gns, gcs, q⟩ := h
    refine ⟨_, b__law_odd_commit Y (ok_dip Y) (ok_odd Y) (ok_oddn Y) (ok_oddr Y) (ok_put Y) hr, ?_⟩
    show t__law_odd_commit K _ _ _ _ _ _ [some (.ref j), some x, some (.int n), none, none, none] H
    unfold t__law_odd_commit
    walk_at "rd"
    refine ⟨j, 8, t, rfl, hW.1, by omega, by decide, by decide, fun r H1 r0 r1 b1 a1 => ?_⟩
    replace b1 := hW.dip b1 a1
    have hx1 := dp_fr hx a1
    have va : ∀ o5 o6, GT K j M H1 [some (.ref j), some x, some (.int n), some (.int r), o5, o6] 4 20600 0 (tVar 1) := fun _ _ => GT.va (i := 1) rfl hx1 hg
    have vn : ∀ o5 o6, GT K j M H1 [some (.ref j), some x, some (.int n), some (.int r), o5, o6] 3 19600 0 (tOp (rIX K) (tVar 1) (tC (.int ((2 : Nat) : Int)))) := fun _ _ => GT.ix (i := 1) (m := 2) rfl hx1 rfl gns
    have vc : ∀ o5 o6, GT K j M H1 [some (.ref j), some x, some (.int n), some (.int r), o5, o6] 3 6500 0 (tOp (rIX K) (tVar 1) (tC (.int ((3 : Nat) : Int)))) := fun _ _ => GT.ix (i := 1) (m := 3) rfl hx1 rfl gcs
    have fin : ∀ {σ : L2.St} {c : Nat} {e : TE} {n b kk : L2.St → Hp → Prop}, GE K j M H1 σ 7 140000 c e → c ≤ 29 → tRet e ⟨n, Q, b, kk⟩ σ H1 := fun {σ} {c} {e} {n} {b} {kk} h hc => GE.ret (GE.mono h (Nat.le_refl _) (Nat.le_refl _) hc) b1 (by omega) (fun z d H' a4 b4 d4 g4 => q z d H' (a1.trans a4) (b4.mono (by omega)) d4 g4)
    have gn : ∀ z : Int, z.natAbs ≤ 2000 → z.natAbs < 10 ^ 40 := fun z h => Nat.lt_of_le_of_lt h (by decide)
    walk_at "rd"
    refine ite2' (fun e => ?_) (fun e => ?_)
    · refine fin (GE.pk (n := 6) (c := 1) ?_ rfl (i := 0) rfl (by decide) (by decide)) (by decide)
      refine GL.cons0 (GE.mono (GE.li (va _ _)) (by decide) (by decide) (by decide)) ?_
      refine GL.cons0 (GE.mono (GT.sl (va _ _) GO.no (GO.in (rd_n rd_c))).ge (by decide) (by decide) (by decide)) ?_
      refine GL.cons0 (GE.mono (GT.ap (va _ _) (GT.tp (n := 1) (k := 4) (W := 500) (GL.cons0 (GE.mono (GE.tq (n := 0) GL.nil (by decide)) (by decide) (Nat.le_refl _) (Nat.le_refl _)) GL.nil) (by decide)) (by decide)).ge (by decide) (by decide) (by decide)) ?_
      refine GL.cons0 (GE.mono (GT.sl (va _ _) (GO.in rd_c) GO.no).ge (by decide) (by decide) (by decide)) ?_
      refine GL.cons0 (GE.mono (GE.tq (n := 0) GL.nil (by decide)) (by decide) (by decide) (by decide)) ?_
      exact GL.cons1 (GE.mono (GE.odd (i := 0) rfl) (by decide) (by decide) (by decide)) GL.nil
    · walk_at "rd"
      refine ite2' (fun e2 => ?_) (fun e2 => ?_)
      · refine s_seq (s_asg ?_)
        refine (GE.pk (n := 11) (k := 2) (W := 500) (c := 0) ?_ rfl (i := 0) rfl (by decide) (by decide) : GE K j M H1 [some (.ref j), some x, some (.int n), some (.int r), none, none] 2 500 1 _) H1 (t + 1) _ (Fr.refl H1) b1 (by omega) fun y d H2 a2 b2 d2 g2 => s_gn ?_
        · refine GL.cons0 (GE.mono (GE.in (rd_v rfl) (gn _ (by omega))) (by decide) (by decide) (by decide)) ?_
          refine GL.cons0 (GE.mono (GE.in (rd_a (rd_v rfl) rd_c) (gn _ (by omega))) (by decide) (by decide) (by decide)) ?_
          refine GL.cons0 (by walk_at "get") ?_
          refine GL.cons0 (GE.mono (GE.in (rd_n (rd_v rfl)) (gn _ (by omega))) (by decide) (by decide) (by decide)) ?_
          refine GL.cons0 (by walk_at "get") ?_
          refine GL.cons0 (by walk_at "get") ?_
          refine GL.cons0 (by walk_at "get") ?_
          refine GL.cons0 (by walk_at "get") ?_
          refine GL.cons0 (by walk_at "get") ?_
          refine GL.cons0 (by walk_at "get") ?_
          exact GL.cons0 (GE.mono (GE.in (rd_s (rd_v rfl) rd_c) (gn _ (by omega))) (by decide) (by decide) (by decide)) GL.nil
        · have hx2 := dp_fr hx1 a2
          have v2 : GT K j M H2 [some (.ref j), some x, some (.int n), some (.int r), some y, none] 4 20600 0 (tVar 1) := GT.va (i := 1) rfl hx2 hg
          refine GE.ret (GE.mono (GT.put v2 rd_c (GE.mono (GE.va (i := 4) rfl d2 g2) (by decide) (Nat.le_refl _) (Nat.le_refl _)) (by decide) (by decide)).ge (by decide) (by decide) (Nat.le_refl _) : GE K j M H2 _ 7 140000 0 _) b2 (by omega) (fun z d H' a4 b4 d4 g4 => q z d H' ((a1.trans a2).trans a4) (b4.mono (by omega)) d4 g4)
      · walk_at "rd"
        refine ite2' (fun e3 => ?_) (fun e3 => ?_)
        · refine fin (GE.mono (GT.put (va _ _) rd_c (GE.mono (GE.pk (n := 8) (c := 0) (k := 2) (W := 500) ?_ rfl (i := 0) rfl (by decide) (by decide)) (by decide) (Nat.le_refl 500) (Nat.le_refl _)) (by decide) (by decide)).ge (by decide) (by decide) (Nat.le_refl _)) (by decide)
          walk_at "glt"
        · walk_at "rd"
          refine ite2' (fun e4 => ?_) (fun e4 => ?_)
          · have gr : GE K j M H1 [some (.ref j), some x, some (.int n), some (.int r), none, none] 4 27100 10 (tCall (sp_oddr K) [] E0 (tCons (tVar 0) (tCons (tOp (rIX K) (tVar 1) (tC (.int ((3 : Nat) : Int)))) tNil))) := fun H t Q hF hW ht q => x_call (x_cons (x_var rfl (x_cons (vc _ _ H t _ hF hW (by omega) fun y es2 H2 a2 b2 d2 g2 => x_nil ⟨j, M, t, y, es2, rfl, b2, ht, d2, g2, fun z d H' a3 b3 d3 g3 => q z d H' (a2.trans a3) b3 d3 g3⟩))))
            exact fin (GE.mono (GT.put (va _ _) rd_c gr (by decide) (by decide)).ge (by decide) (by decide) (Nat.le_refl _)) (by decide)
          · refine s_next ?_
            obtain ⟨p, us, rfl, hs, ha⟩ := dp_tup' hx1
            obtain ⟨v2, i2, dv⟩ := dpAll_get ha (i := 2) (by show 2 < 4; decide)
            have dv : Dp K (ms (j :: M) H1) v2 (.tuple ns) := dv
            refine s_seq (s_if (x_or (x_tst (x_op (x_op (x_var rfl (x_c ?_)))))))
            refine ix_T (sqt_of hs) (atI_nat (j := 2) i2) ?_
            refine x_tup (x_nil ⟨Nat.zero_le _, fun p2 hp2 => ?_⟩)
            have gN := hg.mem (.tuple ns) (by simp)
            refine e_d (dp_mono (same_upd hp2) _ _ (ms_un dv)) (.tup (tup_of upd_same) .nil) (gN.shaped (by decide)) (by decide) ⟨_, rfl, ?_⟩
            have a2 : Fr [j] H1 (upd H1 p2 (.tup [])) := (Fr.refl H1).new hp2
            have b2 := b1.same (same_upd (o := .tup []) hp2)
            generalize upd H1 p2 (.tup []) = H2 at a2 b2
            have hx2 := dp_fr hx1 a2
            have wa : ∀ o5 o6, GT K j M H2 [some (.ref j), some (.ref p), some (.int n), some (.int r), o5, o6] 4 20600 0 (tVar 1) := fun _ _ => GT.va (i := 1) rfl hx2 hg
            have wn : ∀ o5 o6, GT K j M H2 [some (.ref j), some (.ref p), some (.int n), some (.int r), o5, o6] 3 19600 0 (tOp (rIX K) (tVar 1) (tC (.int ((2 : Nat) : Int)))) := fun _ _ => GT.ix (i := 1) (m := 2) rfl hx2 rfl gns
            have goP : ∀ {n2 b kk : L2.St → Hp → Prop}, tRet (tCall (sp_put K) [] E0 (tCons (tVar 1) (tCons (tC (.int 2)) (tCons (tOp (rIX K) (tLst (tCons (tCB (rLIST K) (tCons (tOp (rIX K) (tVar 1) (tC (.int 2))) tNil)) (tCons (tOp (rADD K) (tOp (rIX K) (tVar 1) (tC (.int 2))) (tTup (tCons (tCall (sp_odd K) [] E0 (tCons (tVar 0) tNil)) tNil))) (tCons (tCall (sp_odd K) [] E0 (tCons (tVar 0) tNil)) tNil)))) (tCall (sp_dip K) [] E0 (tCons (tVar 0) (tCons (tC (.int 3)) tNil)))) tNil)))) ⟨n2, Q, b, kk⟩ [some (.ref j), some (.ref p), some (.int n), some (.int r), none, none] H2 := fun {n2} {b} {kk} => by
              refine GE.ret (GE.mono (k := 5) (W := 20600 + (20200 + 2) * 1 + 20600 + 4) (c := 3) (GT.put (k := 4) (W2 := 20200) (c := 0) (c2 := 3) (wa _ _) rd_c (GE.pk (n := 3) (c := 2) ?_ rfl (i := 0) rfl (by decide) (by decide)) (by decide) (by decide)).ge (by decide) (by decide) (Nat.le_refl _) : GE K j M H2 _ 7 140000 3 _) b2 (by omega) (fun z d H' a4 b4 d4 g4 => q z d H' ((a1.trans a2).trans a4) (b4.mono (by omega)) d4 g4)
              refine GL.cons0 (GE.mono (GE.li (wn _ _)) (by decide) (by decide) (by decide)) ?_
              refine GL.cons1 (GE.mono (GT.ap (wn _ _) (GT.tp (n := 1) (k := 3) (W := 500) (GL.cons1 (GE.mono (GE.odd (i := 0) rfl) (by decide) (Nat.le_refl _) (Nat.le_refl _)) GL.nil) (by decide)) (by decide)).ge (by decide) (by decide) (by decide)) ?_
              exact GL.cons1 (GE.mono (GE.odd (i := 0) rfl) (by decide) (by decide) (by decide)) GL.nil
            refine ite2' (fun e5 => ?_) (fun e5 => ?_)
            · refine iteT ?_
              exact goP
            · walk_at "rd"
              refine ite2' (fun e6 => ?_) (fun e6 => ?_)
              · exact goP
              · have hne : 0 < ns.length := by
                  cases ns with
                  | nil => exact absurd e5 (by decide)
                  | cons d r => exact Nat.succ_pos _
                obtain ⟨us2, hs2, ha2⟩ : ∃ us, SqT K H2 p us ∧ DpAll K (ms (j :: M) H2) us [a, b, .tuple ns, .tuple cs] := by
                  obtain ⟨p', us, e, h1, h2⟩ := dp_tup' hx2
                  cases e
                  exact ⟨us, sqt_of h1, h2⟩
                obtain ⟨v3, i3, dv3⟩ := dpAll_get ha2 (i := 2) (by show 2 < 4; decide)
                have dv3 : Dp K (ms (j :: M) H2) v3 (.tuple ns) := dv3
                obtain ⟨pn, un, rfl, hsn, han⟩ := dp_tup' dv3
                have hln := dpAll_len han
                walk_at "rd"
                refine ix_T hs2 (atI_nat (j := 2) i3) ?_
                walk_at "rd"
                refine ln_t (sqt_of hsn) ?_
                walk_at "rd"
                rw [hln]
                refine ⟨j, _, _, rfl, b2.1, by omega, by omega, by omega, fun z H3 z0 z1 b3 a3 => ?_⟩
                replace b3 := b2.dip b3 a3
                refine s_gn ?_
                have hx3 := dp_fr hx2 a3
                have ua : GT K j M H3 [some (.ref j), some (.ref p), some (.int n), some (.int r), none, some (.int z)] 6 20600 0 (tVar 1) := GT.va (i := 1) rfl hx3 (hg.mono (by decide) (Nat.le_refl _))
                have ub : GT K j M H3 [some (.ref j), some (.ref p), some (.int n), some (.int r), none, some (.int z)] 5 19600 0 (tOp (rIX K) (tVar 1) (tC (.int ((2 : Nat) : Int)))) := GT.ix (i := 1) (m := 2) rfl hx3 rfl (gns.mono (by decide) (Nat.le_refl _))
                have hz : z.toNat < ns.length := by omega
                have ez : z = ((z.toNat : Nat) : Int) := by omega
                obtain ⟨dsn, en, hNo⟩ := hns _ (List.getElem_mem hz)
                have uc : GE K j M H3 [some (.ref j), some (.ref p), some (.int n), some (.int r), none, some (.int z)] 5 40200 15 (tCall (sp_oddn K) [] E0 (tCons (tVar 0) (tCons (tOp (rIX K) (tOp (rIX K) (tVar 1) (tC (.int 2))) (tVar 5)) tNil))) := fun H t Q hF hW ht q => by
                  refine x_call (x_cons (x_var rfl (x_cons (x_op (x_op (x_var rfl (x_c ?_)))))))
                  obtain ⟨p', us, e, h1, h2⟩ := dp_tup' (dp_fr hx3 hF)
                  cases e
                  obtain ⟨v3, i3, dv3⟩ := dpAll_get h2 (i := 2) (by show 2 < 4; decide)
                  have dv3 : Dp K (ms (j :: M) H) v3 (.tuple ns) := dv3
                  obtain ⟨pn, un, rfl, hsn, han⟩ := dp_tup' dv3
                  refine ix_T (sqt_of h1) (atI_nat (j := 2) i3) (x_var rfl ?_)
                  obtain ⟨v4, i4, dv4⟩ := dpAll_get han hz
                  rw [en] at dv4
                  refine ix_T (sqt_of hsn) (by rw [ez]; exact atI_nat i4) (x_nil ?_)
                  exact ⟨j, M, t, v4, dsn, rfl, hW, ht, dv4, hNo, q⟩
                refine GE.ret (GE.mono (GT.put ua rd_c (GE.mono (GT.put ub (rd_v (i := 5) rfl) uc (by decide) (by decide)).ge (k2 := 6) (W2 := 79406) (c2 := 15) (by decide) (by decide) (by decide)) (by decide) (by decide)).ge (by decide) (by decide) (Nat.le_refl _) : GE K j M H3 _ 7 140000 15 _) b3 (by omega) (fun z d H' a4 b4 d4 g4 => q z d H' (((a1.trans a2).trans a3).trans a4) (b4.mono (by omega)) d4 g4)
end
end My

set_option Elab.async false
set_option linter.all false
set_option maxRecDepth 100000
set_option maxHeartbeats 1000000
namespace My
open PySem PySem.Spec PyProof.Rows L2
local macro_rules | `(tactic| walk_at "len") => `(tactic| first | assumption | omega | decide | (simp only [List.length_append, List.length_take, List.length_drop, List.length_cons, List.length_nil, List.length_replicate]; omega))
local macro_rules | `(tactic| walk_at "side") => `(tactic| first | assumption | exact Nat.zero_le _ | decide | omega)
local macro_rules | `(tactic| walk_at "rd1") => `(tactic| first
  | with_reducible refine s_seq ?_
  | with_reducible refine x_gsub ?_
  | with_reducible refine s_asg ?_
  | ((with_reducible refine s_gn ?_); dsimp only [List.set])
  | ((with_reducible refine x_var (v := ?rdv) ?rdhv ?_); (case rdhv => rfl))
  | with_reducible refine x_c ?_
  | with_reducible refine x_op ?_
  | with_reducible refine x_cons ?_
  | with_reducible refine x_nil ?_
  | with_reducible refine x_cb ?_
  | with_reducible refine x_call ?_
  | with_reducible refine x_callS ?_
  | with_reducible refine x_revT ?_
  | with_reducible refine x_dget ?_
  | with_reducible refine x_makeS ?_
  | with_reducible refine x_make ?_
  | with_reducible refine x_makeKS ?_
  | with_reducible refine x_methS ?_
  | with_reducible refine x_meth ?_
  | with_reducible refine x_methK ?_
  | with_reducible refine x_fld ?_
  | with_reducible refine s_fld ?_
  | with_reducible refine f_rt ?_
  | with_reducible refine f_zm ?_
  | with_reducible refine c_zm ?_
  | with_reducible refine x_din ?_
  | with_reducible refine x_dnotin ?_
  | with_reducible refine s_dput ?_
  | with_reducible refine x_dnew ?_
  | with_reducible refine s_try ?_
  | with_reducible refine s_raise ?_
  | with_reducible refine s_if ?_
  | with_reducible refine s_ret ?_
  | with_reducible refine s_retN ?_
  | with_reducible refine s_next ?_
  | with_reducible refine s_brk ?_
  | with_reducible refine s_cont ?_
  | with_reducible refine s_drop ?_
  | with_reducible refine s_par ?_
  | with_reducible refine s_par3 ?_
  | ((with_reducible refine s_p2 ?_); dsimp only [List.set])
  | ((with_reducible refine s_p3 ?_); dsimp only [List.set])
  | with_reducible refine f_r1 ?_
  | with_reducible refine f_r2 ?_
  | with_reducible refine f_l ?_
  | with_reducible refine f_t ?_
  | with_reducible refine f_s ?_
  | with_reducible refine c_r1 ?_
  | with_reducible refine c_r2 ?_
  | with_reducible refine c_l ?_
  | with_reducible refine c_t ?_
  | with_reducible refine c_s ?_
  | with_reducible refine x_tst ?_
  | with_reducible refine x_tru ?_
  | with_reducible refine x_truB ?_
  | with_reducible refine x_bl2 ?_
  | with_reducible refine x_int ?_
  | with_reducible refine x_str ?_
  | with_reducible refine x_not ?_
  | with_reducible refine x_and ?_
  | with_reducible refine x_or ?_
  | with_reducible refine x_andV ?_
  | with_reducible refine x_orV ?_
  | with_reducible refine x_notV ?_
  | with_reducible refine x_if ?_
  | with_reducible refine x_yes ?_
  | with_reducible refine x_un ?_
  | with_reducible refine x_tup ?_
  | with_reducible refine x_lst ?_
  | with_reducible refine x_callK ?_
  | with_reducible refine x_callK0 ?_
  | with_reducible refine x_bm ?_
  | with_reducible refine x_bm0 ?_
  | with_reducible refine x_tyS ?_
  | with_reducible refine x_sl ?_
  | with_reducible refine x_nopart ?_
  | with_reducible refine x_part ?_
  | with_reducible refine x_fmt0 ?_
  | with_reducible refine x_gc ?_
  | with_reducible refine x_gz ?_
  | with_reducible refine x_ckw ?_
  | with_reducible refine x_fmt ?_
  | with_reducible refine x_chain ?_
  | with_reducible refine a_ii ?_
  | ((with_reducible refine sl_to ?rda ?rdb ?_); (case rda => walk_at "len"); (case rdb => walk_at "len"))
  | ((with_reducible refine sl_from ?rda ?rdb ?_); (case rda => walk_at "len"); (case rdb => walk_at "len"))
  | ((with_reducible refine sl_mid ?rda ?rdb ?rdc ?_); (case rda => walk_at "len"); (case rdb => walk_at "len"); (case rdc => walk_at "len"))
  | ((with_reducible refine a_SS ?rda ?_); (case rda => walk_at "len"))
  | ((with_reducible refine ln_S ?rda ?_); (case rda => walk_at "len"))
  | with_reducible refine e_SS ?_
  | with_reducible refine ne_SS ?_
  | with_reducible refine s_ii ?_
  | ((with_reducible refine md_ii ?rdc ?_); (case rdc => first | decide | assumption | omega))
  | with_reducible refine n_i ?_
  | with_reducible refine e_ii ?_
  | with_reducible refine e_bb ?_
  | with_reducible refine ne_ii ?_
  | with_reducible refine ne_bb ?_
  | with_reducible refine lt_ii ?_
  | with_reducible refine lt_ss ?_
  | with_reducible refine le_ii ?_
  | with_reducible refine le_ss ?_
  | with_reducible refine gt_ii ?_
  | with_reducible refine gt_ss ?_
  | with_reducible refine ge_ii ?_
  | with_reducible refine e_ss ?_
  | with_reducible refine ne_ss ?_
  | with_reducible refine is_N ?_
  | with_reducible refine is_T ?_
  | with_reducible refine is_B ?_
  | with_reducible refine isn_N ?_
  | with_reducible refine isn_T ?_
  | with_reducible refine isn_B ?_
  | with_reducible refine in_s ?_
  | with_reducible refine nin_s ?_
  | with_reducible refine i_i ?_
  | with_reducible refine i_b ?_
  | with_reducible refine ab_i ?_
  | with_reducible refine mx_ii ?_
  | with_reducible refine mn_ii ?_
  | with_reducible refine ty_N ?_
  | with_reducible refine ty_B ?_
  | with_reducible refine ty_I ?_
  | with_reducible refine ty_S ?_
  | with_reducible refine ma_s ?_
  | with_reducible refine mp_s ?_
  | with_reducible refine mdg_s ?_
  | with_reducible refine mal_s ?_
  | with_reducible refine mlo_s ?_
  | with_reducible refine c_er ?_
  | with_reducible refine c_es ?_
  | with_reducible refine mf_s ?_
  | with_reducible refine iteT ?_
  | with_reducible refine iteF ?_
  | with_reducible refine iteNt ?_
  | with_reducible refine iteNf ?_
  | with_reducible refine iteTd (by decide) ?_
  | with_reducible refine iteFd (by decide) ?_
  | with_reducible refine iteNd (by decide) ?_
  | with_reducible refine iteNdF (by decide) ?_
  | ((with_reducible refine iteFd ?rdn ?_); (case rdn => (intro rdz; cases rdz; done)))
  | ((with_reducible refine iteNdF ?rdn ?_); (case rdn => (intro rdz; cases rdz; done))))
local macro_rules | `(tactic| walk_at "rd") => `(tactic| (repeat walk_at "rd1"))
section
variable {P : Program} {w : World} {K : PySem.W.Frag} {mg : Str → Option Value} {base : Heap}
/-! the same -/
def sp_same0 (K : PySem.W.Frag) : Sp := fun vs H Q _ => ∃ b : Bool, vs = [.bl b, .bl b] ∧ Q (.bl true) H
theorem ok_same0 (Y : Fx K mg) : FnOk P w K mg base CX0 1 Y.a__law_same Y.fd__law_same ["_law_found", "_law_due"] (sp_same0 K) := by
  have G : FnOk P w K mg base CX0 0 Y.a__law_same Y.fd__law_same ["_law_found", "_law_due"] ((fun _ _ _ _ _ => False : PySem.W.Frag → Sp) K) := ⟨fun vs H Q E h => h.elim, fun A outer s H args us vs Q E hr he hb hv hs => hs.elim⟩
  refine Y.F__law_same.ok sc__law_same (fun vs H Q E h => ?_) (fun cdv A outer s H vs Q E hr h => ?_)
  · obtain ⟨b, rfl, _⟩ := h
    rfl
  · obtain ⟨b, rfl, q⟩ := h
    refine ⟨_, b__law_same Y (sp__law_same := fun _ _ _ _ _ => False) G (Nat.zero_le _) hr, ?_⟩
    show t__law_same K _ _ [some (.bl b), some (.bl b), none] H
    unfold t__law_same
    have hb : Dp K H (.bl b) (.bool b) := .bl b
    walk_at "rd"
    refine isi_d (b := true) hb (kit_bo hb) ?_
    walk_at "rd"
    refine isi_d (b := true) hb (kit_bo hb) ?_
    walk_at "rd"
    rw [decide_eq_true (show b = b from rfl)]
    exact q
def sp_same (K : PySem.W.Frag) : Sp := fun vs H Q _ => ∃ (p r : Addr) (b : Bool), vs = [.ref p, .ref r] ∧ H p = some (.lst [.bl b, .bl b]) ∧ H r = some (.lst [.bl b, .bl b]) ∧ ∀ H', Same H H' → Q (.bl true) H'
theorem ok_same (Y : Fx K mg) : FnOk P w K mg base CX0 2 Y.a__law_same Y.fd__law_same ["_law_found", "_law_due"] (sp_same K) := by
  refine Y.F__law_same.ok sc__law_same (fun vs H Q E h => ?_) (fun cdv A outer s H vs Q E hr h => ?_)
  · obtain ⟨p, r, b, rfl, _⟩ := h
    rfl
  · obtain ⟨p, r, b, rfl, hp, hr2, q⟩ := h
    refine ⟨_, b__law_same Y (ok_same0 Y) (Nat.zero_le _) hr, ?_⟩
    show t__law_same K _ _ [some (.ref p), some (.ref r), none] H
    unfold t__law_same
    have hx : Dp K H (.ref p) (.list [.bool b, .bool b]) := dp_bools [b, b] (lst_of hp)
    have hy : Dp K H (.ref r) (.list [.bool b, .bool b]) := dp_bools [b, b] (lst_of hr2)
    walk_at "rd"
    refine isi_d (b := false) hy (kit_bo hy) ?_
    walk_at "rd"
    refine isi_d (b := false) hy (kit_in hy) ?_
    walk_at "rd"
    refine isi_d (b := false) hy (kit_st hy) ?_
    walk_at "rd"
    refine isi_d (b := true) hy (kit_li hy) ?_
    walk_at "rd"
    refine isi_d (b := true) hx (kit_li hx) ?_
    walk_at "rd"
    refine isi_d (b := false) hy (kit_tu hy) ?_
    walk_at "rd"
    refine isi_d (b := false) hx (kit_tu hx) ?_
    walk_at "rd"
    refine ln_l (lst_of hp) ?_
    walk_at "rd"
    refine ln_l (lst_of hr2) ?_
    walk_at "rd"
    refine iteTd rfl ?_
    walk_at "rd"
    refine ln_l (lst_of hr2) ?_
    walk_at "rd"
    refine lcR1_mk (by show -(2 ^ 62) ≤ (2 : Int); decide) (by show (2 : Int) < 2 ^ 62; decide) (fun D i H' => Same H H' ∧ H' D = some (.lst (List.replicate i (.bl true)))) (fun D hD => ⟨same_upd hD, upd_same⟩) (fun D i H' hD hi hq => ?_) (fun D H' hD hq => ?_)
    · obtain ⟨hS, hd⟩ := hq
      have hi : i < 2 := hi
      have at2 : ([V.bl b, V.bl b] : List V)[i]? = some (.bl b) := by
        have : i = 0 ∨ i = 1 := by omega
        rcases this with rfl | rfl <;> rfl
      refine ⟨rfl, ?_⟩
      walk_at "rd"
      refine ix_L (lst_of (hS _ _ hp)) (atI_nat at2) ?_
      walk_at "rd"
      refine ix_L (lst_of (hS _ _ hr2)) (atI_nat at2) ?_
      walk_at "rd"
      refine ⟨b, rfl, ?_⟩
      refine ⟨_, hd, by rw [List.length_replicate]; exact Nat.lt_of_lt_of_le hi (by decide), same_mut hS hD, ?_⟩
      rw [upd_same]
      exact congrArg (fun l => some (HO.lst l)) List.replicate_succ'.symm
    · obtain ⟨hS, hd⟩ := hq
      refine al_b (bs := [true, true]) (lst_of hd) ?_
      exact q H' hS
/-! told rightly -/
def sp_right (K : PySem.W.Frag) : Sp := fun vs H Q _ => ∃ (x : V) (d : PyData), vs = [x] ∧ Dp K H x d ∧ Gv d ∧ ∀ H', Same H H' → Q (.bl true) H'
theorem ok_right (Y : Fx K mg) : FnG P w K mg base CX0 8 Y.a__law_right Y.fd__law_right ["_law_value"] (sp_right K) := by
  refine My.Fun.okG Y.F__law_right sc__law_right (fun vs H Q E h => ?_) (fun cdv A outer s H vs Q E hgd hr h => ?_)
  · obtain ⟨x, d, rfl, _⟩ := h
    rfl
  · obtain ⟨x, d, rfl, hx, hg, q⟩ := h
    refine ⟨_, b__law_right Y (ok_lhistory Y) (ok_lnote Y) ((ok_same Y).mono (by decide)) (ok_is_history Y) (ok_is_note Y) hgd hr, ?_⟩
    show t__law_right K _ _ _ _ _ _ [some x, none] H
    unfold t__law_right
    obtain ⟨k, W, h1, h2, h3⟩ := id hg
    have rep : ∀ {H' : Hp} {Q' : VK}, Same H H' → Q' (.str d.shown) H' → rReprD K [x] H' Q' := fun e q' => rp_d h1 (by omega) (by omega) (dp_mono e _ _ hx) q'
    walk_at "rd"
    refine rep (Same.refl H) ?_
    walk_at "rd"
    refine ⟨x, d, rfl, hx, hg, fun H1 S1 => ?_⟩
    walk_at "rd"
    refine ⟨x, d, rfl, dp_mono S1 _ _ hx, hg, fun H2 S2 => ?_⟩
    have S2 := S1.trans S2
    walk_at "rd"
    refine ⟨by show 2 ≤ sizeLine; decide, fun p hp => ?_⟩
    have S3 := same_new (o := .lst [.bl (noD d), .bl (noD d)]) S2 hp
    have u3 : (upd H2 p (.lst [.bl (noD d), .bl (noD d)])) p = some (.lst [.bl (noD d), .bl (noD d)]) := upd_same
    generalize upd H2 p (.lst [.bl (noD d), .bl (noD d)]) = H3 at S3 u3
    walk_at "rd"
    refine ⟨x, d, rfl, dp_mono S3 _ _ hx, hg, fun H4 S4 => ?_⟩
    walk_at "rd"
    refine ⟨by show 1 ≤ sizeLine; decide, fun p5 hp5 => ?_⟩
    walk_at "rd"
    refine m_li upd_same (by decide) (by decide) (by show 2 ≤ sizeLine; decide) fun l hl => ?_
    walk_at "rd"
    refine ⟨p, l, noD d, rfl, same_upd hl _ _ (same_upd hp5 _ _ (S4 _ _ u3)), upd_same, fun H6 S6 => ?_⟩
    have S6 := ((S3.trans S4).trans (same_upd hp5)).trans ((same_upd hl).trans S6)
    walk_at "rd"
    refine ⟨x, d, rfl, dp_mono S6 _ _ hx, hg, fun H1 S1 => ?_⟩
    have S1 := S6.trans S1
    walk_at "rd"
    refine ⟨x, d, rfl, dp_mono S1 _ _ hx, hg, fun H2 S2 => ?_⟩
    have S2 := S1.trans S2
    walk_at "rd"
    refine ⟨by show 2 ≤ sizeLine; decide, fun p hp => ?_⟩
    have S3 := same_new (o := .lst [.bl (hiD d), .bl (hiD d)]) S2 hp
    have u3 : (upd H2 p (.lst [.bl (hiD d), .bl (hiD d)])) p = some (.lst [.bl (hiD d), .bl (hiD d)]) := upd_same
    generalize upd H2 p (.lst [.bl (hiD d), .bl (hiD d)]) = H3 at S3 u3
    walk_at "rd"
    refine ⟨x, d, rfl, dp_mono S3 _ _ hx, hg, fun H4 S4 => ?_⟩
    walk_at "rd"
    refine ⟨by show 1 ≤ sizeLine; decide, fun p5 hp5 => ?_⟩
    walk_at "rd"
    refine m_li upd_same (by decide) (by decide) (by show 2 ≤ sizeLine; decide) fun l hl => ?_
    walk_at "rd"
    refine ⟨p, l, hiD d, rfl, same_upd hl _ _ (same_upd hp5 _ _ (S4 _ _ u3)), upd_same, fun H6 S6 => ?_⟩
    have S6 := ((S3.trans S4).trans (same_upd hp5)).trans ((same_upd hl).trans S6)
    walk_at "rd"
    refine rep S6 ?_
    walk_at "rd"
    rw [decide_eq_true (show d.shown.cps.toList = d.shown.cps.toList from rfl)]
    exact q H6 S6
end
end My

set_option Elab.async false
set_option linter.all false
set_option maxRecDepth 100000
set_option maxHeartbeats 1000000
namespace My
open PySem PySem.Spec PyProof.Rows L2
local macro_rules | `(tactic| walk_at "len") => `(tactic| first | assumption | omega | decide | (simp only [List.length_append, List.length_take, List.length_drop, List.length_cons, List.length_nil, List.length_replicate]; omega))
local macro_rules | `(tactic| walk_at "side") => `(tactic| first | assumption | exact Nat.zero_le _ | decide | omega)
local macro_rules | `(tactic| walk_at "rd1") => `(tactic| first
  | with_reducible refine s_seq ?_
  | with_reducible refine x_gsub ?_
  | with_reducible refine s_asg ?_
  | ((with_reducible refine s_gn ?_); dsimp only [List.set])
  | ((with_reducible refine x_var (v := ?rdv) ?rdhv ?_); (case rdhv => rfl))
  | with_reducible refine x_c ?_
  | with_reducible refine x_op ?_
  | with_reducible refine x_cons ?_
  | with_reducible refine x_nil ?_
  | with_reducible refine x_cb ?_
  | with_reducible refine x_call ?_
  | with_reducible refine x_callS ?_
  | with_reducible refine x_revT ?_
  | with_reducible refine x_dget ?_
  | with_reducible refine x_makeS ?_
  | with_reducible refine x_make ?_
  | with_reducible refine x_makeKS ?_
  | with_reducible refine x_methS ?_
  | with_reducible refine x_meth ?_
  | with_reducible refine x_methK ?_
  | with_reducible refine x_fld ?_
  | with_reducible refine s_fld ?_
  | with_reducible refine f_rt ?_
  | with_reducible refine f_zm ?_
  | with_reducible refine c_zm ?_
  | with_reducible refine x_din ?_
  | with_reducible refine x_dnotin ?_
  | with_reducible refine s_dput ?_
  | with_reducible refine x_dnew ?_
  | with_reducible refine s_try ?_
  | with_reducible refine s_raise ?_
  | with_reducible refine s_if ?_
  | with_reducible refine s_ret ?_
  | with_reducible refine s_retN ?_
  | with_reducible refine s_next ?_
  | with_reducible refine s_brk ?_
  | with_reducible refine s_cont ?_
  | with_reducible refine s_drop ?_
  | with_reducible refine s_par ?_
  | with_reducible refine s_par3 ?_
  | ((with_reducible refine s_p2 ?_); dsimp only [List.set])
  | ((with_reducible refine s_p3 ?_); dsimp only [List.set])
  | with_reducible refine f_r1 ?_
  | with_reducible refine f_r2 ?_
  | with_reducible refine f_l ?_
  | with_reducible refine f_t ?_
  | with_reducible refine f_s ?_
  | with_reducible refine c_r1 ?_
  | with_reducible refine c_r2 ?_
  | with_reducible refine c_l ?_
  | with_reducible refine c_t ?_
  | with_reducible refine c_s ?_
  | with_reducible refine x_tst ?_
  | with_reducible refine x_tru ?_
  | with_reducible refine x_truB ?_
  | with_reducible refine x_bl2 ?_
  | with_reducible refine x_int ?_
  | with_reducible refine x_str ?_
  | with_reducible refine x_not ?_
  | with_reducible refine x_and ?_
  | with_reducible refine x_or ?_
  | with_reducible refine x_andV ?_
  | with_reducible refine x_orV ?_
  | with_reducible refine x_notV ?_
  | with_reducible refine x_if ?_
  | with_reducible refine x_yes ?_
  | with_reducible refine x_un ?_
  | with_reducible refine x_tup ?_
  | with_reducible refine x_lst ?_
  | with_reducible refine x_callK ?_
  | with_reducible refine x_callK0 ?_
  | with_reducible refine x_bm ?_
  | with_reducible refine x_bm0 ?_
  | with_reducible refine x_tyS ?_
  | with_reducible refine x_sl ?_
  | with_reducible refine x_nopart ?_
  | with_reducible refine x_part ?_
  | with_reducible refine x_fmt0 ?_
  | with_reducible refine x_gc ?_
  | with_reducible refine x_gz ?_
  | with_reducible refine x_ckw ?_
  | with_reducible refine x_fmt ?_
  | with_reducible refine x_chain ?_
  | with_reducible refine a_ii ?_
  | ((with_reducible refine sl_to ?rda ?rdb ?_); (case rda => walk_at "len"); (case rdb => walk_at "len"))
  | ((with_reducible refine sl_from ?rda ?rdb ?_); (case rda => walk_at "len"); (case rdb => walk_at "len"))
  | ((with_reducible refine sl_mid ?rda ?rdb ?rdc ?_); (case rda => walk_at "len"); (case rdb => walk_at "len"); (case rdc => walk_at "len"))
  | ((with_reducible refine a_SS ?rda ?_); (case rda => walk_at "len"))
  | ((with_reducible refine ln_S ?rda ?_); (case rda => walk_at "len"))
  | with_reducible refine e_SS ?_
  | with_reducible refine ne_SS ?_
  | with_reducible refine s_ii ?_
  | ((with_reducible refine md_ii ?rdc ?_); (case rdc => first | decide | assumption | omega))
  | with_reducible refine n_i ?_
  | with_reducible refine e_ii ?_
  | with_reducible refine e_bb ?_
  | with_reducible refine ne_ii ?_
  | with_reducible refine ne_bb ?_
  | with_reducible refine lt_ii ?_
  | with_reducible refine lt_ss ?_
  | with_reducible refine le_ii ?_
  | with_reducible refine le_ss ?_
  | with_reducible refine gt_ii ?_
  | with_reducible refine gt_ss ?_
  | with_reducible refine ge_ii ?_
  | with_reducible refine e_ss ?_
  | with_reducible refine ne_ss ?_
  | with_reducible refine is_N ?_
  | with_reducible refine is_T ?_
  | with_reducible refine is_B ?_
  | with_reducible refine isn_N ?_
  | with_reducible refine isn_T ?_
  | with_reducible refine isn_B ?_
  | with_reducible refine in_s ?_
  | with_reducible refine nin_s ?_
  | with_reducible refine i_i ?_
  | with_reducible refine i_b ?_
  | with_reducible refine ab_i ?_
  | with_reducible refine mx_ii ?_
  | with_reducible refine mn_ii ?_
  | with_reducible refine ty_N ?_
  | with_reducible refine ty_B ?_
  | with_reducible refine ty_I ?_
  | with_reducible refine ty_S ?_
  | with_reducible refine ma_s ?_
  | with_reducible refine mp_s ?_
  | with_reducible refine mdg_s ?_
  | with_reducible refine mal_s ?_
  | with_reducible refine mlo_s ?_
  | with_reducible refine c_er ?_
  | with_reducible refine c_es ?_
  | with_reducible refine mf_s ?_
  | with_reducible refine iteT ?_
  | with_reducible refine iteF ?_
  | with_reducible refine iteNt ?_
  | with_reducible refine iteNf ?_
  | with_reducible refine iteTd (by decide) ?_
  | with_reducible refine iteFd (by decide) ?_
  | with_reducible refine iteNd (by decide) ?_
  | with_reducible refine iteNdF (by decide) ?_
  | ((with_reducible refine iteFd ?rdn ?_); (case rdn => (intro rdz; cases rdz; done)))
  | ((with_reducible refine iteNdF ?rdn ?_); (case rdn => (intro rdz; cases rdz; done))))
local macro_rules | `(tactic| walk_at "rd") => `(tactic| (repeat walk_at "rd1"))
section
variable {P : Program} {w : World} {K : PySem.W.Frag} {mg : Str → Option Value} {base : Heap}
theorem tri : ∀ {a b : List Nat}, ¬ b < a → a ≠ b → a < b
  | [], [], _, h2 => absurd rfl h2
  | [], _ :: _, _, _ => List.nil_lt_cons ..
  | _ :: _, [], h1, _ => absurd (List.nil_lt_cons ..) h1
  | x :: a, y :: b, h1, h2 => by
    rw [List.cons_lt_cons_iff] at h1 ⊢
    by_cases hxy : x = y
    · subst hxy
      exact .inr ⟨rfl, tri (fun h => h1 (.inr ⟨rfl, h⟩)) (fun h => h2 (by rw [h]))⟩
    · exact .inl (by have : ¬ y < x := fun h => h1 (.inl h); omega)
theorem asc_of : ∀ (a : List Nat) (r : List (List Nat)), (a :: r).Nodup → risingS (S a) (r.map S) = true → ascL (a :: r) = true
  | a, [], _, _ => rfl
  | a, b :: r, hn, h => by
    have h' : (!ltCps b a && risingS (S b) (r.map S)) = true := h
    rw [Bool.and_eq_true, ltCps_eq] at h'
    obtain ⟨h1, h2⟩ := h'
    rw [List.nodup_cons] at hn
    have h3 : ¬ b < a := by
      intro z
      rw [decide_eq_true z] at h1
      cases h1
    have h4 : a < b := tri h3 (fun e => hn.1 (by rw [e]; exact List.mem_cons_self ..))
    show (decide (a < b) && ascL (b :: r)) = true
    rw [decide_eq_true h4, asc_of b r hn.2 h2]
    rfl
theorem asc_all {ks : List (List Nat)} (hn : ks.Nodup) (h : sortedS (ks.map S) = true) : ascL ks = true := by
  cases ks with
  | nil => rfl
  | cons a r => exact asc_of a r hn h
/-! a dictionary of rows -/
def TxC (c : Ch) : Prop := (isT c.1 = true ∧ c.1.length ≤ 12) ∧ ∀ v, c.2 = some v → isT v = true ∧ v.length ≤ 3
def kvD (c : Ch) : Key × V := (Sum.inr (S c.1), vlV c.2)
theorem kvD_eq (c : Ch) (k : List Nat) : ((kvD c).1 = (Sum.inr (S k) : Key)) = (c.1 = k) := by
  apply propext
  constructor
  · intro h
    exact S_inj (Sum.inr.inj h)
  · intro h
    show (Sum.inr (S c.1) : Key) = _
    rw [h]
def putL (cs : List Ch) (k : List Nat) (v : Option (List Nat)) : List Ch :=
  if cs.any (fun c => decide (c.1 = k)) then cs.map (fun c => if c.1 = k then (c.1, v) else c) else cs ++ [(k, v)]
theorem put_L (cs : List Ch) (k : List Nat) (v : Option (List Nat)) : putK (cs.map kvD) (Sum.inr (S k) : Key) (vlV v) = (putL cs k v).map kvD := by
  unfold putK putL
  have e : (cs.map kvD).any (fun kv => decide (kv.1 = (Sum.inr (S k) : Key))) = cs.any (fun c => decide (c.1 = k)) := by
    rw [List.any_map]
    congr 1
    funext c
    exact decide_eq_decide.mpr (by rw [kvD_eq])
  rw [e]
  by_cases h : cs.any (fun c => decide (c.1 = k)) = true
  · rw [if_pos h, if_pos h, List.map_map, List.map_map]
    congr 1
    funext c
    show (if (kvD c).1 = (Sum.inr (S k) : Key) then ((kvD c).1, vlV v) else kvD c) = kvD (if c.1 = k then (c.1, v) else c)
    by_cases hc : c.1 = k
    · rw [if_pos hc, if_pos (by rw [kvD_eq]; exact hc)]
      rfl
    · rw [if_neg hc, if_neg (by rw [kvD_eq]; exact hc)]
  · rw [if_neg h, if_neg h, List.map_append]
    rfl
def RwOk (cs : List Ch) : Prop := (cs.map (·.1)).Nodup ∧ ∀ c ∈ cs, TxC c
theorem RwOk.nil : RwOk [] := ⟨List.nodup_nil, fun _ h => by cases h⟩
theorem putL_len (cs : List Ch) (k : List Nat) (v : Option (List Nat)) : (putL cs k v).length ≤ cs.length + 1 := by
  unfold putL
  split
  · rw [List.length_map]; omega
  · rw [List.length_append]; exact Nat.le_refl _
theorem putL_ok {cs : List Ch} {k : List Nat} {v : Option (List Nat)} (h : RwOk cs) (hk : TxC (k, v)) : RwOk (putL cs k v) := by
  unfold putL
  by_cases ha : cs.any (fun c => decide (c.1 = k)) = true
  · rw [if_pos ha]
    refine ⟨?_, fun c hc => ?_⟩
    · rw [List.map_map]
      have e : ((fun c : Ch => c.1) ∘ fun c => if c.1 = k then (c.1, v) else c) = fun c : Ch => c.1 := by
        funext c
        show (if c.1 = k then (c.1, v) else c).1 = c.1
        by_cases hc : c.1 = k
        · rw [if_pos hc]
        · rw [if_neg hc]
      rw [e]
      exact h.1
    · obtain ⟨c0, h0, e⟩ := List.mem_map.mp hc
      by_cases hck : c0.1 = k
      · rw [if_pos hck] at e
        rw [← e, hck]
        exact hk
      · rw [if_neg hck] at e
        rw [← e]
        exact h.2 c0 h0
  · rw [if_neg ha]
    have hno : k ∉ cs.map (·.1) := by
      intro z
      obtain ⟨c, hc, e⟩ := List.mem_map.mp z
      exact ha (List.any_eq_true.mpr ⟨c, hc, decide_eq_true e⟩)
    refine ⟨?_, fun c hc => ?_⟩
    · rw [List.map_append]
      refine List.nodup_append.mpr ⟨h.1, by simp, fun a ha b hb => ?_⟩
      have : b = k := List.mem_singleton.mp hb
      rintro rfl
      exact hno (this ▸ ha)
    · rcases List.mem_append.mp hc with hc | hc
      · exact h.2 c hc
      · rw [List.mem_singleton.mp hc]
        exact hk
def valL (cs : List Ch) (k : List Nat) : Option (List Nat) := match cs.find? (fun c => decide (c.1 = k)) with
  | some c => c.2
  | none => none
theorem val_L {cs : List Ch} (h : RwOk cs) {k : List Nat} (hk : k ∈ cs.map (·.1)) : valV (cs.map kvD) (Sum.inr (S k) : Key) = some (vlV (valL cs k)) ∧ TxC (k, valL cs k) := by
  obtain ⟨c, hc, e⟩ := List.mem_map.mp hk
  unfold valV valL
  rw [List.find?_map]
  have e2 : ((fun kv : Key × V => decide (kv.1 = (Sum.inr (S k) : Key))) ∘ kvD) = fun c : Ch => decide (c.1 = k) := by
    funext c
    exact decide_eq_decide.mpr (by rw [kvD_eq])
  rw [e2]
  cases hf : cs.find? (fun c => decide (c.1 = k)) with
  | none =>
    have := List.find?_eq_none.mp hf c hc
    exact absurd (decide_eq_true e) this
  | some d =>
    have h1 : d ∈ cs := List.mem_of_find?_eq_some hf
    have h2' := List.find?_some hf
    have h2 : d.1 = k := of_decide_eq_true h2'
    refine ⟨rfl, ?_⟩
    have := h.2 d h1
    rw [← h2]
    exact this
def GoodC (cs : List Ch) : Prop := isChsD (chsD cs) = true ∧ ∀ c ∈ cs, TxC c
theorem isChg_of {c : Ch} (h : TxC c) : isChgD (chD c) = true := by
  obtain ⟨k, o⟩ := c
  obtain ⟨⟨h1, _⟩, h2⟩ := h
  cases o with
  | none =>
    show (isT k && (true || false)) = true
    rw [show isT k = true from h1]
    rfl
  | some v =>
    show (isT k && (false || isT v)) = true
    rw [show isT k = true from h1, show isT v = true from (h2 v rfl).1]
    rfl
theorem isChs_eq (cs : List Ch) : isChsD (chsD cs) = (cs.all (fun c => isChgD (chD c)) && ascL (cs.map (·.1))) := by
  show ((cs.map chD).all isChgD && ascL ((cs.map chD).map keyD)) = _
  rw [List.all_map, List.map_map]
  rfl
theorem good_of {cs : List Ch} (h1 : ascL (cs.map (·.1)) = true) (h2 : ∀ c ∈ cs, TxC c) : GoodC cs := by
  refine ⟨?_, h2⟩
  rw [isChs_eq, h1, Bool.and_true, List.all_eq_true]
  exact fun c hc => isChg_of (h2 c hc)
theorem good_rows {cs : List Ch} (h : RwOk cs) {ks : List (List Nat)} (hp : ks.Perm (cs.map (·.1))) (hs : sortedS (ks.map S) = true) : GoodC (ks.map fun k => (k, valL cs k)) := by
  refine good_of ?_ ?_
  · rw [List.map_map]
    have e : ((fun c : Ch => c.1) ∘ fun k => (k, valL cs k)) = id := rfl
    rw [e, List.map_id]
    exact asc_all (hp.nodup_iff.mpr h.1) hs
  · intro c hc
    obtain ⟨k, hk, e⟩ := List.mem_map.mp hc
    rw [← e]
    exact (val_L h (hp.mem_iff.mp hk)).2
theorem rising_pw : ∀ (a : List Nat) (r : List (List Nat)), risingS (S a) (r.map S) = true → (a :: r).Pairwise (fun x y => ¬ y < x)
  | a, [], _ => List.pairwise_singleton _ _
  | a, b :: r, h => by
    have h' : (!ltCps b a && risingS (S b) (r.map S)) = true := h
    rw [Bool.and_eq_true, ltCps_eq] at h'
    obtain ⟨h1, h2⟩ := h'
    have h3 : ¬ b < a := by
      intro z
      rw [decide_eq_true z] at h1
      cases h1
    have ih := rising_pw b r h2
    refine List.pairwise_cons.mpr ⟨fun y hy => ?_, ih⟩
    rcases List.mem_cons.mp hy with rfl | hy
    · exact h3
    · have h4 := (List.pairwise_cons.mp ih).1 y hy
      intro z
      by_cases e : a = b
      · exact h4 (by rw [← e]; exact z)
      · exact h4 (txt_trans z (txt_tri h3 e))
theorem sorted_pw {ks : List (List Nat)} (h : sortedS (ks.map S) = true) : ks.Pairwise (fun x y => ¬ y < x) := by
  cases ks with
  | nil => exact List.Pairwise.nil
  | cons a r => exact rising_pw a r h

theorem asc_pw : ∀ {ks : List (List Nat)}, ks.Pairwise (fun x y => x < y) → ascL ks = true
  | [], _ => rfl
  | [_], _ => rfl
  | a :: b :: r, h => by
    show (decide (a < b) && ascL (b :: r)) = true
    have h' := List.pairwise_cons.mp h
    rw [decide_eq_true (h'.1 b (List.mem_cons_self ..)), asc_pw h'.2]
    rfl
theorem pw_lt {ks : List (List Nat)} (hn : ks.Nodup) (h : sortedS (ks.map S) = true) : ks.Pairwise (fun x y => x < y) := by
  have h1 := sorted_pw h
  exact List.Pairwise.imp₂ (fun a b h1 h2 => txt_tri h1 h2) h1 hn
def SomeC (cs : List Ch) : Prop := ∀ c ∈ cs, c.2.isSome = true
theorem val_some {cs : List Ch} (hs : SomeC cs) {k : List Nat} (hk : k ∈ cs.map (·.1)) : (valL cs k).isSome = true := by
  unfold valL
  obtain ⟨c, hc, e⟩ := List.mem_map.mp hk
  cases hf : cs.find? (fun c => decide (c.1 = k)) with
  | none => exact absurd (decide_eq_true e) (List.find?_eq_none.mp hf c hc)
  | some d => exact hs d (List.mem_of_find?_eq_some hf)
/-- rows for some of the keys, in their order -/
def rowsOf (cs : List Ch) (es : List (List Nat)) : List Ch := es.map fun k => (k, valL cs k)
theorem rows_keys (cs : List Ch) (es : List (List Nat)) : (rowsOf cs es).map (·.1) = es := by
  unfold rowsOf
  rw [List.map_map]
  exact List.map_id _
theorem rows_good {cs : List Ch} (h : RwOk cs) {ks es : List (List Nat)} (hp : ks.Perm (cs.map (·.1))) (hs : sortedS (ks.map S) = true) (hsub : es.Sublist ks) : GoodC (rowsOf cs es) := by
  refine good_of ?_ ?_
  · rw [rows_keys]
    exact asc_pw ((pw_lt (hp.nodup_iff.mpr h.1) hs).sublist hsub)
  · intro c hc
    obtain ⟨k, hk, e⟩ := List.mem_map.mp hc
    rw [← e]
    exact (val_L h (hp.mem_iff.mp (hsub.subset hk))).2
/-! sizes -/
theorem gd_txt {l : List Nat} (h : isT l = true) {n : Nat} (hl : l.length ≤ n) : Gd 0 (10 * n + 2) (.str (S l)) := by
  have h2 := shaped_str h
  unfold SeqAt.shaped at h2
  rw [Bool.and_eq_true] at h2
  refine ⟨h2.1, Nat.le_refl _, ?_⟩
  rw [sh, S_len]
  omega
theorem gd_vl {o : Option (List Nat)} {n : Nat} (h : ∀ v, o = some v → isT v = true ∧ v.length ≤ n) : Gd 0 (10 * n + 5) (vlD o) := by
  cases o with
  | none => exact ⟨rfl, Nat.le_refl _, by show 5 ≤ _; omega⟩
  | some v => exact (gd_txt (h v rfl).1 (h v rfl).2).mono (Nat.le_refl _) (by omega)
theorem gd_ch {c : Ch} (h : TxC c) : Gd 1 165 (chD c) := (Gd.tup (Gds.cons (gd_txt h.1.1 h.1.2) (Gds.cons (gd_vl h.2) Gds.nil (W2 := 0)))).mono (Nat.le_refl _) (by decide)
theorem gds_chs {cs : List Ch} (h : ∀ c ∈ cs, TxC c) : Gds 1 (167 * cs.length) (cs.map chD) := by
  have := Gds.all (k := 1) (W := 165) (ds := cs.map chD) (fun d hd => by
    obtain ⟨c, hc, rfl⟩ := List.mem_map.mp hd
    exact gd_ch (h c hc))
  rw [List.length_map] at this
  exact this
theorem tup_ch (c : Ch) : tupD (chD c) = true := by
  obtain ⟨k, o⟩ := c
  cases o <;> rfl
theorem tup_chs : ∀ cs : List Ch, tupDs (cs.map chD) = true
  | [] => rfl
  | c :: cs => by
    show (tupD (chD c) && tupDs (cs.map chD)) = true
    rw [tup_ch, tup_chs]
    rfl
/-- a list that grows keeps what stands in it -/
theorem dps_acc {H : Hp} {D : Addr} {acc : List V} {o : HO} {us : List V} {ds : List PyData} (hD : H D = some (.lst acc)) (ht : tupDs ds = true) (h : DpAll K H us ds) : DpAll K (upd H D o) us ds :=
  dpAll_mono (ms_le (L := [D])) _ _ (dpAll_mono (ms_upd (L := [D]) (List.mem_singleton_self D)) _ _ (ms_dps (L := [D]) (fun x hx o e => by
    rw [List.mem_singleton.mp hx, hD] at e
    cases e
    exact True.intro) ds us ht h))
/-! whether a note has a key; the note as rows give it -/
def NtD (d : PyData) : Prop := noD d = true ∧ tupD d = true ∧ ∃ ds, d = .tuple ds ∧ Gds 2 6500 ds ∧ (ds.length = 3 ∨ ∃ a b c es, ds = [a, b, c, .tuple es])
def sp_has (K : PySem.W.Frag) : Sp := fun vs H Q _ => ∃ (p e : Addr) (lo hi : Option (List Nat)) (k : List Nat), vs = [.ref p, .str (S k)] ∧ SqT K H p [.str (S entT), vlV lo, vlV hi, .ref e] ∧ ∀ b, Q (.bl b) H
theorem ok_has (Y : Fx K mg) : FnOk P w K mg base CX0 1 Y.a__law_has Y.fd__law_has ["_law_note_here", "_law_key"] (sp_has K) := by
  refine Y.F__law_has.ok sc__law_has (fun vs H Q E h => ?_) (fun cdv A outer st H vs Q E hr h => ?_)
  · obtain ⟨p, e, lo, hi, k, rfl, _⟩ := h
    rfl
  · obtain ⟨p, e, lo, hi, k, rfl, hp, q⟩ := h
    refine ⟨_, b__law_has Y hr, ?_⟩
    show t__law_has K _ [some (.ref p), some (.str (S k))] H
    unfold t__law_has
    rw [show ("value" : Str) = S valT from rfl]
    walk_at "rd"
    refine ix_T hp (by rfl) ?_
    walk_at "rd"
    have fin : tNotV (tAndV (tOp (rISN K) (tOp (rIX K) (tVar 0) (tC (.int 2))) (tC .non)) (tOp rGE (tVar 1) (tOp (rIX K) (tVar 0) (tC (.int 2))))) [some (.ref p), some (.str (S k))] H Q := by
      walk_at "rd"
      refine ix_T hp (by rfl) ?_
      cases hi with
      | none =>
        show tC V.non _ H _
        walk_at "rd"
        exact q _
      | some hi =>
        show tC V.non _ H _
        walk_at "rd"
        refine ix_T hp (by rfl) ?_
        show rGE (.str (S k)) (.str (S hi)) H _
        refine .inr ⟨S k, S hi, rfl, rfl, ?_⟩
        walk_at "rd"
        exact q _
    revert fin
    generalize tNotV (tAndV (tOp (rISN K) (tOp (rIX K) (tVar 0) (tC (.int 2))) (tC .non)) (tOp rGE (tVar 1) (tOp (rIX K) (tVar 0) (tC (.int 2))))) = T
    intro fin
    refine ix_T hp (by rfl) ?_
    cases lo with
    | none =>
      show tC V.non _ H _
      walk_at "rd"
      exact fin
    | some lo =>
      show tC V.non _ H _
      walk_at "rd"
      refine ix_T hp (by rfl) ?_
      show rLT (.str (S k)) (.str (S lo)) H _
      walk_at "rd"
      refine ite2' (fun e => ?_) (fun e => ?_)
      · exact fin
      · exact q _
theorem note_val {k : List Nat} {o : Option (List Nat)} (hk : isT k = true) (ho : ∀ v, o = some v → isT v = true ∧ v.length ≤ 3) (hl : k.length ≤ 12) : NtD (.tuple [.str (S valT), .str (S k), vlD o]) := by
  refine ⟨?_, ?_, _, rfl, ?_, .inl rfl⟩
  · show (if isW valT (.str (S valT)) = true then vlB [.str (S k), vlD o] else if isW entT (.str (S valT)) = true then enB [.str (S k), vlD o] else false) = true
    rw [if_pos (by decide)]
    show (isT k && bdD (vlD o)) = true
    rw [hk]
    cases o with
    | none => rfl
    | some v => show (true && (false || isT v)) = true; rw [(ho v rfl).1]; rfl
  · cases o <;> rfl
  · exact (Gds.cons (gd_txt (l := valT) (n := 5) (by decide) (by decide)) (Gds.cons (gd_txt hk hl) (Gds.cons (gd_vl ho) (Gds.nil (W := 0))))).mono (by decide) (by decide)
theorem bd_vl {o : Option (List Nat)} (ho : ∀ v, o = some v → isT v = true) : bdD (vlD o) = true := by
  cases o with
  | none => rfl
  | some v => show (false || isT v) = true; rw [ho v rfl]; rfl
theorem note_ent {lo hi : Option (List Nat)} {cs : List Ch} (hlo : ∀ v, lo = some v → isT v = true ∧ v.length ≤ 12) (hhi : ∀ v, hi = some v → isT v = true ∧ v.length ≤ 12) (hg : GoodC cs) (hs : SomeC cs) (hl : cs.length ≤ 30) : NtD (.tuple [.str (S entT), vlD lo, vlD hi, .tuple (cs.map chD)]) := by
  refine ⟨?_, ?_, _, rfl, ?_, .inr ⟨_, _, _, _, rfl⟩⟩
  · show (if isW valT (.str (S entT)) = true then vlB [vlD lo, vlD hi, chsD cs] else if isW entT (.str (S entT)) = true then enB [vlD lo, vlD hi, chsD cs] else false) = true
    rw [if_neg (by decide), if_pos (by decide)]
    show (bdD (vlD lo) && (bdD (vlD hi) && (isChsD (chsD cs) && entB (chsD cs)))) = true
    rw [bd_vl fun v e => (hlo v e).1, bd_vl fun v e => (hhi v e).1, hg.1, ent_chs, show someB cs = true from List.all_eq_true.mpr hs]
    rfl
  · show (true && (tupD (vlD lo) && (tupD (vlD hi) && (tupDs (cs.map chD) && true)))) = true
    rw [tup_chs]
    cases lo <;> cases hi <;> rfl
  · exact (Gds.cons ((gd_txt (l := entT) (n := 7) (by decide) (by decide)).mono (Nat.zero_le 2) (Nat.le_refl _)) (Gds.cons ((gd_vl hlo).mono (Nat.zero_le 2) (Nat.le_refl _)) (Gds.cons ((gd_vl hhi).mono (Nat.zero_le 2) (Nat.le_refl _)) (Gds.cons (Gd.tup (gds_chs hg.2)) (Gds.nil (W := 0)))))).mono (by decide) (by omega)
/-- rows at an address -/
def RwAt (H : Hp) (a : Addr) (cs : List Ch) : Prop := H a = some (.dK (cs.map kvD)) ∧ RwOk cs ∧ SomeC cs
theorem keys_kv (cs : List Ch) : (cs.map kvD).map (·.1) = ((cs.map (·.1)).map S).map Sum.inr := by
  rw [List.map_map, List.map_map, List.map_map]
  rfl
theorem perm_S {ys : List Str} {ks : List (List Nat)} (h : ys.Perm (ks.map S)) : ∃ ls : List (List Nat), ys = ls.map S ∧ ls.Perm ks := by
  refine ⟨ys.map fun y => y.cps.toList, ?_, ?_⟩
  · rw [List.map_map]
    have : (S ∘ fun y : Str => y.cps.toList) = id := by
      funext y
      exact (S_eta y).symm
    rw [this, List.map_id]
  · have := h.map fun y : Str => y.cps.toList
    rw [List.map_map] at this
    have e : ((fun y : Str => y.cps.toList) ∘ S) = id := by
      funext l
      exact S_cps l
    rw [e, List.map_id] at this
    exact this
theorem val_any {cs : List Ch} (h : RwOk cs) (k : List Nat) : ∃ o : Option (List Nat), (valV (cs.map kvD) (Sum.inr (S k) : Key)).getD .non = vlV o ∧ ∀ v, o = some v → isT v = true ∧ v.length ≤ 3 := by
  by_cases hk : k ∈ cs.map (·.1)
  · obtain ⟨e, h2⟩ := val_L h hk
    exact ⟨valL cs k, by rw [e]; rfl, h2.2⟩
  · refine ⟨none, ?_, fun v e => by cases e⟩
    have : valV (cs.map kvD) (Sum.inr (S k) : Key) = none := by
      unfold valV
      rw [List.find?_map, Option.map_map, Option.map_eq_none_iff]
      refine List.find?_eq_none.mpr fun c hc e => hk (List.mem_map.mpr ⟨c, hc, ?_⟩)
      have e1 : decide ((kvD c).1 = (Sum.inr (S k) : Key)) = true := e
      rw [← kvD_eq]
      exact of_decide_eq_true e1
    rw [this]
    rfl
def sp_given (K : PySem.W.Frag) : Sp := fun vs H Q _ => ∃ (a p : Addr) (cs : List Ch), vs = [.ref a, .ref p] ∧ RwAt H a cs ∧ cs.length ≤ 30 ∧
  ((∃ k, H p = some (.tup [.str (S valT), .str (S k), .non]) ∧ isT k = true ∧ k.length ≤ 12) ∨ ∃ lo hi e, H p = some (.tup [.str (S entT), vlV lo, vlV hi, .ref e]) ∧ (∀ v, lo = some v → isT v = true ∧ v.length ≤ 12) ∧ ∀ v, hi = some v → isT v = true ∧ v.length ≤ 12) ∧
  ∀ x d H', Same H H' → Dp K H' x d → NtD d → Q x H'
theorem ok_given (Y : Fx K mg) : FnOk P w K mg base CX0 2 Y.a__law_given Y.fd__law_given ["_law_rows", "_law_note_here"] (sp_given K) := by
  refine Y.F__law_given.ok sc__law_given (fun vs H Q E h => ?_) (fun cdv A outer st H vs Q E hr h => ?_)
  · obtain ⟨a, p, cs, rfl, _⟩ := h
    rfl
  · obtain ⟨a, p, cs, rfl, ⟨ha, hok, hso⟩, hl, hn, q⟩ := h
    refine ⟨_, b__law_given Y (ok_has Y) hr, ?_⟩
    show t__law_given K _ _ [some (.ref a), some (.ref p), none, none] H
    unfold t__law_given
    rw [show ("value" : Str) = S valT from rfl, show ("entries" : Str) = S entT from rfl]
    rcases hn with ⟨k, hp, hk, hkl⟩ | ⟨lo, hi, e, hp, hlo, hhi⟩
    · walk_at "rd"
      refine ix_T (tup_of hp) (by rfl) ?_
      walk_at "rd"
      refine ix_T (tup_of hp) (by rfl) ?_
      refine x_cons (x_dget1 (x_var rfl ⟨a, rfl, .inl ⟨_, .inl ha⟩, ?_⟩))
      walk_at "rd"
      refine ix_T (tup_of hp) (by rfl) ?_
      refine ⟨_, DGet.k (k := Sum.inr (S k)) ha, ?_⟩
      obtain ⟨o, e1, ho⟩ := val_any hok k
      rw [e1]
      walk_at "rd"
      refine ⟨by show 3 ≤ sizeLine; decide, fun p2 hp2 => ?_⟩
      exact q _ _ _ (same_upd hp2) (.tup (tup_of upd_same) (.cons (.str _) (.cons (.str _) (.cons (dp_vl _ _) .nil)))) (note_val hk ho hkl)
    · walk_at "rd"
      refine ix_T (tup_of hp) (by rfl) ?_
      walk_at "rd"
      refine ⟨a, cs.map kvD, (cs.map (·.1)).map S, rfl, .inl ha, keys_kv cs, by rw [List.length_map, List.length_map]; omega, fun ys p2 hperm0 hsort hp2 => ?_⟩
      obtain ⟨ls, rfl, hperm⟩ := perm_S hperm0
      have S1 : Same H (upd H p2 (.lst ((ls.map S).map V.str))) := same_upd hp2
      have u1 : (upd H p2 (.lst ((ls.map S).map V.str))) p2 = some (.lst ((ls.map S).map V.str)) := upd_same
      generalize upd H p2 (.lst ((ls.map S).map V.str)) = H1 at S1 u1
      have hll : ls.length = cs.length := by rw [hperm.length_eq, List.length_map]
      refine lcL_mk (lst_of u1) (fun D i H' => Same H1 H' ∧ ∃ us es, H' D = some (.lst us) ∧ DpAll K H' us ((rowsOf cs es).map chD) ∧ es.Sublist (ls.take i) ∧ us.length ≤ 30) (fun D hD => ⟨same_upd hD, [], [], upd_same, .nil, List.nil_sublist _, Nat.zero_le _⟩) (fun D i H' hD hi hq => lst_of (hq.1 _ _ u1)) (fun D i x H' hD hx hq => ?_) (fun D H' hD hq => ?_)
      · obtain ⟨hS, us, es, hd, hus, hsub, hlu⟩ := hq
        rw [List.getElem?_map, List.getElem?_map] at hx
        obtain ⟨k, hk, rfl⟩ : ∃ k, ls[i]? = some k ∧ x = .str (S k) := by
          cases e : ls[i]? with
          | none => rw [e] at hx; cases hx
          | some k => rw [e] at hx; exact ⟨k, rfl, (Option.some.inj hx).symm⟩
        have hmem : k ∈ cs.map (·.1) := hperm.mem_iff.mp (List.mem_of_getElem? hk)
        have htk := take_snoc hk
        refine ⟨rfl, ?_⟩
        walk_at "rd"
        refine ⟨p, e, lo, hi, k, rfl, tup_of (hS _ _ (S1 _ _ hp)), fun b => ?_⟩
        walk_at "rd"
        refine ite2' (fun eb => ?_) (fun eb => ?_)
        · walk_at "rd"
          obtain ⟨ev, hv⟩ := val_L hok hmem
          refine ⟨a, _, rfl, (by have := DGet.k (k := Sum.inr (S k)) (hS _ _ (S1 _ _ ha)); rw [ev] at this; exact this), ?_⟩
          walk_at "rd"
          refine ⟨by show 2 ≤ sizeLine; decide, fun p4 hp4 => ?_⟩
          have oD : p4 ≠ D := ne_new hd hp4
          have hd4 : (upd H' p4 (.tup [.str (S k), vlV (valL cs k)])) D = some (.lst us) := same_upd hp4 _ _ hd
          have hS4 := same_new (o := .tup [.str (S k), vlV (valL cs k)]) hS hp4
          have hlen : es.length ≤ i := Nat.le_trans hsub.length_le (by rw [List.length_take]; omega)
          have hul : us.length = es.length := by
            have := dpAll_len hus
            rw [List.length_map] at this
            unfold rowsOf at this
            rw [List.length_map] at this
            exact this
          have hi2 : i < ls.length := (List.getElem?_eq_some_iff.mp hk).1
          refine ⟨us, hd4, Nat.lt_of_le_of_lt hlu (by decide), same_mut hS4 hD, us ++ [.ref p4], es ++ [k], upd_same, ?_, ?_, by rw [List.length_append]; show us.length + 1 ≤ 30; omega⟩
          · refine dps_acc hd4 (tup_chs _) ?_
            have e5 : (rowsOf cs (es ++ [k])).map chD = (rowsOf cs es).map chD ++ [chD (k, valL cs k)] := by
              unfold rowsOf
              rw [List.map_append, List.map_append]
              rfl
            rw [e5]
            refine dpa_app (dpAll_mono (same_upd hp4) _ _ hus) (.cons (.tup (tup_of upd_same) (.cons (.str _) (.cons (dp_vl _ _) .nil))) .nil)
          · rw [htk]
            exact hsub.append (List.Sublist.refl _)
        · refine ⟨hS, us, es, hd, hus, ?_, hlu⟩
          rw [htk]
          exact hsub.trans (List.sublist_append_left _ _)
      · obtain ⟨hS, us, es, hd, hus, hsub, hlu⟩ := hq
        rw [show ((ls.map S).map V.str).length = ls.length from by rw [List.length_map, List.length_map], List.take_length] at hsub
        have hg := rows_good hok hperm hsort hsub
        have hsm : SomeC (rowsOf cs es) := fun c hc => by
          obtain ⟨k, hk, rfl⟩ := List.mem_map.mp hc
          exact val_some hso (hperm.mem_iff.mp (hsub.subset hk))
        walk_at "rd"
        refine tu_L (lst_of hd) fun l hl => ?_
        have hD2 : Dp K (upd H' l (.tup us)) (.ref l) (chsD (rowsOf cs es)) := .tup (tup_of upd_same) (dpAll_mono (same_upd hl) _ _ hus)
        have hS2 := S1.trans (same_new (o := .tup us) hS hl)
        have hrl : (rowsOf cs es).length ≤ 30 := by
          have := hsub.length_le
          unfold rowsOf
          rw [List.length_map]
          omega
        generalize upd H' l (.tup us) = H2 at hD2 hS2
        walk_at "rd"
        refine ix_T (tup_of (hS2 _ _ hp)) (by rfl) ?_
        walk_at "rd"
        refine ix_T (tup_of (hS2 _ _ hp)) (by rfl) ?_
        walk_at "rd"
        refine ⟨by show 4 ≤ sizeLine; decide, fun p2 hp2 => ?_⟩
        exact q _ _ _ (same_new hS2 hp2) (.tup (tup_of upd_same) (.cons (.str _) (.cons (dp_vl _ _) (.cons (dp_vl _ _) (.cons (dp_mono (same_upd hp2) _ _ hD2) .nil))))) (note_ent hlo hhi hg hsm hrl)
end
end My

set_option Elab.async false
set_option linter.all false
set_option maxRecDepth 100000
set_option maxHeartbeats 1000000
namespace My
open PySem PySem.Spec PyProof.Rows L2
local macro_rules | `(tactic| walk_at "len") => `(tactic| first | assumption | omega | decide | (simp only [List.length_append, List.length_take, List.length_drop, List.length_cons, List.length_nil, List.length_replicate]; omega))
local macro_rules | `(tactic| walk_at "side") => `(tactic| first | assumption | exact Nat.zero_le _ | decide | omega)
local macro_rules | `(tactic| walk_at "rd1") => `(tactic| first
  | with_reducible refine s_seq ?_
  | with_reducible refine x_gsub ?_
  | with_reducible refine s_asg ?_
  | ((with_reducible refine s_gn ?_); dsimp only [List.set])
  | ((with_reducible refine x_var (v := ?rdv) ?rdhv ?_); (case rdhv => rfl))
  | with_reducible refine x_c ?_
  | with_reducible refine x_op ?_
  | with_reducible refine x_cons ?_
  | with_reducible refine x_nil ?_
  | with_reducible refine x_cb ?_
  | with_reducible refine x_call ?_
  | with_reducible refine x_callS ?_
  | with_reducible refine x_revT ?_
  | with_reducible refine x_dget ?_
  | with_reducible refine x_makeS ?_
  | with_reducible refine x_make ?_
  | with_reducible refine x_makeKS ?_
  | with_reducible refine x_methS ?_
  | with_reducible refine x_meth ?_
  | with_reducible refine x_methK ?_
  | with_reducible refine x_fld ?_
  | with_reducible refine s_fld ?_
  | with_reducible refine f_rt ?_
  | with_reducible refine f_zm ?_
  | with_reducible refine c_zm ?_
  | with_reducible refine x_din ?_
  | with_reducible refine x_dnotin ?_
  | with_reducible refine s_dput ?_
  | with_reducible refine x_dnew ?_
  | with_reducible refine s_try ?_
  | with_reducible refine s_raise ?_
  | with_reducible refine s_if ?_
  | with_reducible refine s_ret ?_
  | with_reducible refine s_retN ?_
  | with_reducible refine s_next ?_
  | with_reducible refine s_brk ?_
  | with_reducible refine s_cont ?_
  | with_reducible refine s_drop ?_
  | with_reducible refine s_par ?_
  | with_reducible refine s_par3 ?_
  | ((with_reducible refine s_p2 ?_); dsimp only [List.set])
  | ((with_reducible refine s_p3 ?_); dsimp only [List.set])
  | with_reducible refine f_r1 ?_
  | with_reducible refine f_r2 ?_
  | with_reducible refine f_l ?_
  | with_reducible refine f_t ?_
  | with_reducible refine f_s ?_
  | with_reducible refine c_r1 ?_
  | with_reducible refine c_r2 ?_
  | with_reducible refine c_l ?_
  | with_reducible refine c_t ?_
  | with_reducible refine c_s ?_
  | with_reducible refine x_tst ?_
  | with_reducible refine x_tru ?_
  | with_reducible refine x_truB ?_
  | with_reducible refine x_bl2 ?_
  | with_reducible refine x_int ?_
  | with_reducible refine x_str ?_
  | with_reducible refine x_not ?_
  | with_reducible refine x_and ?_
  | with_reducible refine x_or ?_
  | with_reducible refine x_andV ?_
  | with_reducible refine x_orV ?_
  | with_reducible refine x_notV ?_
  | with_reducible refine x_if ?_
  | with_reducible refine x_yes ?_
  | with_reducible refine x_un ?_
  | with_reducible refine x_tup ?_
  | with_reducible refine x_lst ?_
  | with_reducible refine x_callK ?_
  | with_reducible refine x_callK0 ?_
  | with_reducible refine x_bm ?_
  | with_reducible refine x_bm0 ?_
  | with_reducible refine x_tyS ?_
  | with_reducible refine x_sl ?_
  | with_reducible refine x_nopart ?_
  | with_reducible refine x_part ?_
  | with_reducible refine x_fmt0 ?_
  | with_reducible refine x_gc ?_
  | with_reducible refine x_gz ?_
  | with_reducible refine x_ckw ?_
  | with_reducible refine x_fmt ?_
  | with_reducible refine x_chain ?_
  | with_reducible refine a_ii ?_
  | ((with_reducible refine sl_to ?rda ?rdb ?_); (case rda => walk_at "len"); (case rdb => walk_at "len"))
  | ((with_reducible refine sl_from ?rda ?rdb ?_); (case rda => walk_at "len"); (case rdb => walk_at "len"))
  | ((with_reducible refine sl_mid ?rda ?rdb ?rdc ?_); (case rda => walk_at "len"); (case rdb => walk_at "len"); (case rdc => walk_at "len"))
  | ((with_reducible refine a_SS ?rda ?_); (case rda => walk_at "len"))
  | ((with_reducible refine ln_S ?rda ?_); (case rda => walk_at "len"))
  | with_reducible refine e_SS ?_
  | with_reducible refine ne_SS ?_
  | with_reducible refine s_ii ?_
  | ((with_reducible refine md_ii ?rdc ?_); (case rdc => first | decide | assumption | omega))
  | with_reducible refine n_i ?_
  | with_reducible refine e_ii ?_
  | with_reducible refine e_bb ?_
  | with_reducible refine ne_ii ?_
  | with_reducible refine ne_bb ?_
  | with_reducible refine lt_ii ?_
  | with_reducible refine lt_ss ?_
  | with_reducible refine le_ii ?_
  | with_reducible refine le_ss ?_
  | with_reducible refine gt_ii ?_
  | with_reducible refine gt_ss ?_
  | with_reducible refine ge_ii ?_
  | with_reducible refine e_ss ?_
  | with_reducible refine ne_ss ?_
  | with_reducible refine is_N ?_
  | with_reducible refine is_T ?_
  | with_reducible refine is_B ?_
  | with_reducible refine isn_N ?_
  | with_reducible refine isn_T ?_
  | with_reducible refine isn_B ?_
  | with_reducible refine in_s ?_
  | with_reducible refine nin_s ?_
  | with_reducible refine i_i ?_
  | with_reducible refine i_b ?_
  | with_reducible refine ab_i ?_
  | with_reducible refine mx_ii ?_
  | with_reducible refine mn_ii ?_
  | with_reducible refine ty_N ?_
  | with_reducible refine ty_B ?_
  | with_reducible refine ty_I ?_
  | with_reducible refine ty_S ?_
  | with_reducible refine ma_s ?_
  | with_reducible refine mp_s ?_
  | with_reducible refine mdg_s ?_
  | with_reducible refine mal_s ?_
  | with_reducible refine mlo_s ?_
  | with_reducible refine c_er ?_
  | with_reducible refine c_es ?_
  | with_reducible refine mf_s ?_
  | with_reducible refine iteT ?_
  | with_reducible refine iteF ?_
  | with_reducible refine iteNt ?_
  | with_reducible refine iteNf ?_
  | with_reducible refine iteTd (by decide) ?_
  | with_reducible refine iteFd (by decide) ?_
  | with_reducible refine iteNd (by decide) ?_
  | with_reducible refine iteNdF (by decide) ?_
  | ((with_reducible refine iteFd ?rdn ?_); (case rdn => (intro rdz; cases rdz; done)))
  | ((with_reducible refine iteNdF ?rdn ?_); (case rdn => (intro rdz; cases rdz; done))))
local macro_rules | `(tactic| walk_at "rd") => `(tactic| (repeat walk_at "rd1"))
section
variable {P : Program} {w : World} {K : PySem.W.Frag} {mg : Str → Option Value} {base : Heap}
/-! the pool of keys -/
def PoolOk (ks : List (List Nat)) : Prop := AllT ks ∧ (∀ l ∈ ks, l.length ≤ 8) ∧ 1 ≤ ks.length ∧ ks.length ≤ 6
def PoolAt (H : Hp) (p : Addr) (ks : List (List Nat)) : Prop := H p = some (.lst (tv ks)) ∧ PoolOk ks
theorem PoolAt.same {H H' : Hp} {p : Addr} {ks : List (List Nat)} (h : PoolAt H p ks) (e : Same H H') : PoolAt H' p ks := ⟨e _ _ h.1, h.2⟩
theorem PoolAt.off {H : Hp} {p j : Addr} {ks : List (List Nat)} {t : Nat} (h : PoolAt H p ks) (hW : WellAt H j t) (hk : (tv ks).length ≠ 3 ∨ p ≠ j) : p ∉ [j] := by
  intro z
  have z := List.mem_singleton.mp z
  rcases hk with hk | hk
  · subst z
    obtain ⟨g, m, c, h1, _⟩ := hW
    have := h.1
    rw [h1] at this
    have h2 := HO.lst.inj (Option.some.inj this)
    exact hk (by rw [← h2]; rfl)
  · exact hk z
theorem PoolAt.ne {H : Hp} {p j : Addr} {ks : List (List Nat)} {t : Nat} (h : PoolAt H p ks) (hW : WellAt H j t) : p ∉ [j] := by
  intro z
  have z := List.mem_singleton.mp z
  subst z
  obtain ⟨g, m, c, h1, _⟩ := hW
  have h2 := h.1
  rw [h1] at h2
  obtain ⟨_, _, h3, _⟩ := h.2
  cases ks with
  | nil => exact absurd h3 (by decide)
  | cons a r => cases h2
theorem PoolAt.fr {H H' : Hp} {p j : Addr} {ks : List (List Nat)} (h : PoolAt H p ks) (e : Fr [j] H H') (hp : p ∉ [j]) : PoolAt H' p ks := ⟨e _ _ hp h.1, h.2⟩
theorem flat_tv : ∀ ls : List (List Nat), (tv ls).all flatV = true
  | [] => rfl
  | l :: ls => by
    show (flatV (.str (S l)) && (tv ls).all flatV) = true
    rw [flat_tv ls]
    rfl
theorem tv_get {ls : List (List Nat)} {i : Nat} {l : List Nat} (h : ls[i]? = some l) : (tv ls)[i]? = some (.str (S l)) := by
  unfold tv
  rw [List.getElem?_map, h]
  rfl
def sp_pool (K : PySem.W.Frag) : Sp := fun vs H Q _ => ∃ (j : Addr) (m : Int) (t : Nat), vs = [.ref j, .int m] ∧ 1 ≤ m ∧ m ≤ 5 ∧ WellAt H j t ∧ t + 60 ≤ 900000000 ∧ ∀ p ks H', PoolAt H' p ks → WellAt H' j (t + 60) → Fr [j] H H' → Q (.ref p) H'
theorem ok_pool (Y : Fx K mg) : FnOk P w K mg base CX0 3 Y.a__law_pool Y.fd__law_pool ["_law_well_here", "_law_many"] (sp_pool K) := by
  refine Y.F__law_pool.ok sc__law_pool (fun vs H Q E h => ?_) (fun cdv A outer st H vs Q E hr h => ?_)
  · obtain ⟨j, m, t, rfl, _⟩ := h
    rfl
  · obtain ⟨j, m, t, rfl, hm1, hm5, hW, ht, q⟩ := h
    refine ⟨_, b__law_pool Y (ok_dip Y) (ok_word Y) hr, ?_⟩
    show t__law_pool K _ _ _ [some (.ref j), some (.int m), none, none, none] H
    unfold t__law_pool
    walk_at "rd"
    refine ⟨j, 2, t, rfl, hW, by omega, by decide, fun l0 H1 hl0 hT0 hW1 hF1 => ?_⟩
    walk_at "rd"
    refine ⟨by show 1 ≤ sizeLine; decide, fun p hp => ?_⟩
    have op := hW1.off hp
    have opj : p ∉ [j] := fun z => op (List.mem_singleton.mp z)
    have hpN : H p = none := by
      cases e : H p with
      | none => rfl
      | some o =>
        have := hF1 p o opj e
        rw [hp] at this
        cases this
    have h0 : PoolAt (upd H1 p (.lst [.str (S l0)])) p [l0] := ⟨upd_same, fun l hl => by rw [List.mem_singleton.mp hl]; exact hT0, fun l hl => by rw [List.mem_singleton.mp hl]; omega, Nat.le_refl _, Nat.succ_le_succ (Nat.zero_le _)⟩
    have hW2 := hW1.same (same_upd hp (o := .lst [.str (S l0)]))
    have hF2 := hF1.new (o := .lst [.str (S l0)]) hp
    generalize upd H1 p (.lst [.str (S l0)]) = H2 at h0 hW2 hF2
    walk_at "rd"
    refine for1_mk (by omega) (by omega) (fun i σ H' => ∃ (ks : List (List Nat)) (o3 o4 : Option V), σ = [some (.ref j), some (.int m), some (.ref p), o3, o4] ∧ H' p = some (.lst (tv ks)) ∧ AllT ks ∧ (∀ l ∈ ks, l.length ≤ 3 + i) ∧ 1 ≤ ks.length ∧ ks.length ≤ 1 + i ∧ WellAt H' j (t + 3 + 9 * i) ∧ Fr [j] H H')
      ⟨[l0], _, _, rfl, h0.1, h0.2.1, (fun l hl => by rw [List.mem_singleton.mp hl]; omega), Nat.le_refl _, Nat.le_refl _, hW2, hF2⟩ (fun i σ H3 hi hV => ?_) (fun σ H3 hV => ?_)
    · obtain ⟨ks, o3, o4, rfl, hk, hT, hL, hn1, hn2, hW3, hF3⟩ := hV
      walk_at "rd"
      refine ⟨j, 3, _, rfl, hW3, by omega, by decide, fun la H4 hla hTa hW4 hF4 => ?_⟩
      have hk4 := hF4 _ _ opj hk
      walk_at "rd"
      obtain ⟨lz, hz⟩ : ∃ lz, ks[ks.length - 1]? = some lz := ⟨_, List.getElem?_eq_getElem (by omega)⟩
      refine ix_L (lst_of hk4) (at_last (n := ks.length - 1) (by rw [tv_len]; omega) (tv_get hz)) ?_
      walk_at "rd"
      refine ⟨j, 1, _, rfl, hW4, by omega, by decide, fun lb H5 hlb hTb hW5 hF5 => ?_⟩
      have hk5 := hF5 _ _ opj hk4
      walk_at "rd"
      have hz2 := hT _ (List.mem_of_getElem? hz)
      have hz3 := hL _ (List.mem_of_getElem? hz)
      refine a_SS (by omega) ?_
      walk_at "rd"
      refine ⟨j, 1, _, rfl, hW5, by omega, by decide, fun lc H6 hlc hTc hW6 hF6 => ?_⟩
      have hk6 := hF6 _ _ opj hk5
      walk_at "rd"
      obtain ⟨ly, hy⟩ : ∃ ly, ks[0]? = some ly := ⟨_, List.getElem?_eq_getElem (by omega)⟩
      refine ix_L (lst_of hk6) (atI_nat (j := 0) (tv_get hy)) ?_
      have hy2 := hT _ (List.mem_of_getElem? hy)
      have hy3 := hL _ (List.mem_of_getElem? hy)
      refine a_SS (by omega) ?_
      walk_at "rd"
      refine ⟨by show 3 ≤ sizeLine; decide, fun p6 hp6 => ?_⟩
      have op6 : p6 ∉ [j] := fun z => hW6.off hp6 (List.mem_singleton.mp z)
      have hW7 := hW6.same (same_upd hp6 (o := .lst [V.str (S la), .str (S (lz ++ lb)), .str (S (lc ++ ly))]))
      have hF7 := (((hF3.trans hF4).trans hF5).trans hF6).new (o := .lst [V.str (S la), .str (S (lz ++ lb)), .str (S (lc ++ ly))]) hp6
      have hk7 := same_upd hp6 (o := .lst [V.str (S la), .str (S (lz ++ lb)), .str (S (lc ++ ly))]) _ _ hk6
      have h7 : upd H6 p6 (.lst [V.str (S la), .str (S (lz ++ lb)), .str (S (lc ++ ly))]) p6 = some (.lst [V.str (S la), .str (S (lz ++ lb)), .str (S (lc ++ ly))]) := upd_same
      generalize upd H6 p6 (.lst [V.str (S la), .str (S (lz ++ lb)), .str (S (lc ++ ly))]) = H7 at hW7 hF7 hk7 h7 ⊢
      walk_at "rd"
      refine ⟨j, 3, _, rfl, hW7, by omega, by decide, by decide, fun r H8 r0 r1 hW8 hF8 => ?_⟩
      obtain ⟨n, rfl, hn⟩ : ∃ n : Nat, r = n ∧ n < 3 := ⟨r.toNat, by omega, by omega⟩
      obtain ⟨key, ek, kT, kL⟩ : ∃ key : List Nat, [V.str (S la), .str (S (lz ++ lb)), .str (S (lc ++ ly))][n]? = some (.str (S key)) ∧ isT key = true ∧ key.length ≤ 4 + i := by
        match n, hn with
        | 0, _ => exact ⟨la, rfl, hTa, by omega⟩
        | 1, _ => exact ⟨lz ++ lb, rfl, by rw [isT_app, hz2, hTb]; rfl, by rw [List.length_append]; omega⟩
        | 2, _ => exact ⟨lc ++ ly, rfl, by rw [isT_app, hTc, hy2]; rfl, by rw [List.length_append]; omega⟩
        | n + 3, h => omega
      refine ix_L (lst_of (hF8 _ _ op6 h7)) (atI_nat ek) ?_
      have hk8 := hF8 _ _ opj hk7
      have hF08 := hF7.trans hF8
      walk_at "rd"
      refine .inr ⟨p, tv ks, rfl, .inl (lst_of hk8), rfl, flat_tv ks, ?_⟩
      walk_at "rd"
      refine ite2' (fun e => ?_) (fun e => ?_)
      · walk_at "rd"
        refine x_tyL (lst_of hk8) ?_
        walk_at "rd"
        refine ap_L hk8 (by rw [tv_len]; omega) ?_
        refine ⟨ks ++ [key], _, _, rfl, ?_, ?_, ?_, by rw [List.length_append]; omega, by rw [List.length_append, List.length_singleton]; omega, (hW8.mono (by omega)).keep op, hF08.mut hpN⟩
        · rw [upd_same, tv_app]
          rfl
        · intro l hl
          rcases List.mem_append.mp hl with h | h
          · exact hT l h
          · rw [List.mem_singleton.mp h]; exact kT
        · intro l hl
          rcases List.mem_append.mp hl with h | h
          · have := hL l h; omega
          · rw [List.mem_singleton.mp h]; omega
      · exact ⟨ks, _, _, rfl, hk8, hT, (fun l hl => by have := hL l hl; omega), hn1, by omega, hW8.mono (by omega), hF08⟩
    · obtain ⟨ks, o3, o4, rfl, hk, hT, hL, hn1, hn2, hW3, hF3⟩ := hV
      walk_at "rd"
      exact q p ks H3 ⟨hk, hT, (fun l hl => by have := hL l hl; omega), hn1, by omega⟩ (hW3.mono (by omega)) hF3
end
end My

set_option Elab.async false
set_option linter.all false
set_option maxRecDepth 100000
set_option maxHeartbeats 1000000
namespace My
open PySem PySem.Spec PyProof.Rows L2
local macro_rules | `(tactic| walk_at "len") => `(tactic| first | assumption | omega | decide | (simp only [List.length_append, List.length_take, List.length_drop, List.length_cons, List.length_nil, List.length_replicate]; omega))
local macro_rules | `(tactic| walk_at "side") => `(tactic| first | assumption | exact Nat.zero_le _ | decide | omega)
local macro_rules | `(tactic| walk_at "rd1") => `(tactic| first
  | with_reducible refine s_seq ?_
  | with_reducible refine x_gsub ?_
  | with_reducible refine s_asg ?_
  | ((with_reducible refine s_gn ?_); dsimp only [List.set])
  | ((with_reducible refine x_var (v := ?rdv) ?rdhv ?_); (case rdhv => rfl))
  | with_reducible refine x_c ?_
  | with_reducible refine x_op ?_
  | with_reducible refine x_cons ?_
  | with_reducible refine x_nil ?_
  | with_reducible refine x_cb ?_
  | with_reducible refine x_call ?_
  | with_reducible refine x_callS ?_
  | with_reducible refine x_revT ?_
  | with_reducible refine x_dget ?_
  | with_reducible refine x_makeS ?_
  | with_reducible refine x_make ?_
  | with_reducible refine x_makeKS ?_
  | with_reducible refine x_methS ?_
  | with_reducible refine x_meth ?_
  | with_reducible refine x_methK ?_
  | with_reducible refine x_fld ?_
  | with_reducible refine s_fld ?_
  | with_reducible refine f_rt ?_
  | with_reducible refine f_zm ?_
  | with_reducible refine c_zm ?_
  | with_reducible refine x_din ?_
  | with_reducible refine x_dnotin ?_
  | with_reducible refine s_dput ?_
  | with_reducible refine x_dnew ?_
  | with_reducible refine s_try ?_
  | with_reducible refine s_raise ?_
  | with_reducible refine s_if ?_
  | with_reducible refine s_ret ?_
  | with_reducible refine s_retN ?_
  | with_reducible refine s_next ?_
  | with_reducible refine s_brk ?_
  | with_reducible refine s_cont ?_
  | with_reducible refine s_drop ?_
  | with_reducible refine s_par ?_
  | with_reducible refine s_par3 ?_
  | ((with_reducible refine s_p2 ?_); dsimp only [List.set])
  | ((with_reducible refine s_p3 ?_); dsimp only [List.set])
  | with_reducible refine f_r1 ?_
  | with_reducible refine f_r2 ?_
  | with_reducible refine f_l ?_
  | with_reducible refine f_t ?_
  | with_reducible refine f_s ?_
  | with_reducible refine c_r1 ?_
  | with_reducible refine c_r2 ?_
  | with_reducible refine c_l ?_
  | with_reducible refine c_t ?_
  | with_reducible refine c_s ?_
  | with_reducible refine x_tst ?_
  | with_reducible refine x_tru ?_
  | with_reducible refine x_truB ?_
  | with_reducible refine x_bl2 ?_
  | with_reducible refine x_int ?_
  | with_reducible refine x_str ?_
  | with_reducible refine x_not ?_
  | with_reducible refine x_and ?_
  | with_reducible refine x_or ?_
  | with_reducible refine x_andV ?_
  | with_reducible refine x_orV ?_
  | with_reducible refine x_notV ?_
  | with_reducible refine x_if ?_
  | with_reducible refine x_yes ?_
  | with_reducible refine x_un ?_
  | with_reducible refine x_tup ?_
  | with_reducible refine x_lst ?_
  | with_reducible refine x_callK ?_
  | with_reducible refine x_callK0 ?_
  | with_reducible refine x_bm ?_
  | with_reducible refine x_bm0 ?_
  | with_reducible refine x_tyS ?_
  | with_reducible refine x_sl ?_
  | with_reducible refine x_nopart ?_
  | with_reducible refine x_part ?_
  | with_reducible refine x_fmt0 ?_
  | with_reducible refine x_gc ?_
  | with_reducible refine x_gz ?_
  | with_reducible refine x_ckw ?_
  | with_reducible refine x_fmt ?_
  | with_reducible refine x_chain ?_
  | with_reducible refine a_ii ?_
  | ((with_reducible refine sl_to ?rda ?rdb ?_); (case rda => walk_at "len"); (case rdb => walk_at "len"))
  | ((with_reducible refine sl_from ?rda ?rdb ?_); (case rda => walk_at "len"); (case rdb => walk_at "len"))
  | ((with_reducible refine sl_mid ?rda ?rdb ?rdc ?_); (case rda => walk_at "len"); (case rdb => walk_at "len"); (case rdc => walk_at "len"))
  | ((with_reducible refine a_SS ?rda ?_); (case rda => walk_at "len"))
  | ((with_reducible refine ln_S ?rda ?_); (case rda => walk_at "len"))
  | with_reducible refine e_SS ?_
  | with_reducible refine ne_SS ?_
  | with_reducible refine s_ii ?_
  | ((with_reducible refine md_ii ?rdc ?_); (case rdc => first | decide | assumption | omega))
  | with_reducible refine n_i ?_
  | with_reducible refine e_ii ?_
  | with_reducible refine e_bb ?_
  | with_reducible refine ne_ii ?_
  | with_reducible refine ne_bb ?_
  | with_reducible refine lt_ii ?_
  | with_reducible refine lt_ss ?_
  | with_reducible refine le_ii ?_
  | with_reducible refine le_ss ?_
  | with_reducible refine gt_ii ?_
  | with_reducible refine gt_ss ?_
  | with_reducible refine ge_ii ?_
  | with_reducible refine e_ss ?_
  | with_reducible refine ne_ss ?_
  | with_reducible refine is_N ?_
  | with_reducible refine is_T ?_
  | with_reducible refine is_B ?_
  | with_reducible refine isn_N ?_
  | with_reducible refine isn_T ?_
  | with_reducible refine isn_B ?_
  | with_reducible refine in_s ?_
  | with_reducible refine nin_s ?_
  | with_reducible refine i_i ?_
  | with_reducible refine i_b ?_
  | with_reducible refine ab_i ?_
  | with_reducible refine mx_ii ?_
  | with_reducible refine mn_ii ?_
  | with_reducible refine ty_N ?_
  | with_reducible refine ty_B ?_
  | with_reducible refine ty_I ?_
  | with_reducible refine ty_S ?_
  | with_reducible refine ma_s ?_
  | with_reducible refine mp_s ?_
  | with_reducible refine mdg_s ?_
  | with_reducible refine mal_s ?_
  | with_reducible refine mlo_s ?_
  | with_reducible refine c_er ?_
  | with_reducible refine c_es ?_
  | with_reducible refine mf_s ?_
  | with_reducible refine iteT ?_
  | with_reducible refine iteF ?_
  | with_reducible refine iteNt ?_
  | with_reducible refine iteNf ?_
  | with_reducible refine iteTd (by decide) ?_
  | with_reducible refine iteFd (by decide) ?_
  | with_reducible refine iteNd (by decide) ?_
  | with_reducible refine iteNdF (by decide) ?_
  | ((with_reducible refine iteFd ?rdn ?_); (case rdn => (intro rdz; cases rdz; done)))
  | ((with_reducible refine iteNdF ?rdn ?_); (case rdn => (intro rdz; cases rdz; done))))
local macro_rules | `(tactic| walk_at "rd") => `(tactic| (repeat walk_at "rd1"))
section
variable {P : Program} {w : World} {K : PySem.W.Frag} {mg : Str → Option Value} {base : Heap}
theorem RwAt.same {H H' : Hp} {a : Addr} {cs : List Ch} (h : RwAt H a cs) (e : Same H H') : RwAt H' a cs := ⟨e _ _ h.1, h.2⟩
theorem RwAt.ne {H : Hp} {a j : Addr} {cs : List Ch} {t : Nat} (h : RwAt H a cs) (hW : WellAt H j t) : a ∉ [j] := by
  intro z
  have z := List.mem_singleton.mp z
  subst z
  obtain ⟨g, m, c, h1, _⟩ := hW
  have h2 := h.1
  rw [h1] at h2
  cases h2
theorem RwAt.fr {H H' : Hp} {a j : Addr} {cs : List Ch} (h : RwAt H a cs) (e : Fr [j] H H') (hp : a ∉ [j]) : RwAt H' a cs := ⟨e _ _ hp h.1, h.2⟩
/-! a note -/
def EndOk (o : Option (List Nat)) : Prop := ∀ v, o = some v → isT v = true ∧ v.length ≤ 8
theorem ends_eq (ks : List (List Nat)) (l : List Nat) : [V.non, V.non] ++ tv ks ++ [V.str (S l)] = ((none : Option (List Nat)) :: none :: (ks ++ [l]).map some).map vlV := by
  show [V.non, V.non] ++ tv ks ++ [V.str (S l)] = V.non :: V.non :: (((ks ++ [l]).map some).map vlV)
  rw [List.map_map, List.map_append]
  rfl
theorem ends_ok {ks : List (List Nat)} {l : List Nat} (h : PoolOk ks) (hT : isT l = true) (hl : l.length ≤ 8) : ∀ o ∈ (none : Option (List Nat)) :: none :: (ks ++ [l]).map some, EndOk o := by
  intro o ho v e
  rcases List.mem_cons.mp ho with z | ho
  · rw [z] at e; cases e
  rcases List.mem_cons.mp ho with z | ho
  · rw [z] at e; cases e
  obtain ⟨y, hy, rfl⟩ := List.mem_map.mp ho
  cases e
  rcases List.mem_append.mp hy with hy | hy
  · exact ⟨h.1 _ hy, h.2.1 _ hy⟩
  · rw [List.mem_singleton.mp hy]; exact ⟨hT, hl⟩
theorem ends_get {os : List (Option (List Nat))} {i : Nat} {o : Option (List Nat)} (h : os[i]? = some o) : (os.map vlV)[i]? = some (vlV o) := by
  rw [List.getElem?_map, h]
  rfl
def sp_note (K : PySem.W.Frag) : Sp := fun vs H Q _ => ∃ (j p a : Addr) (t : Nat) (ks : List (List Nat)) (cs : List Ch), vs = [.ref j, .ref p, .ref a] ∧ WellAt H j t ∧ t + 10 ≤ 900000000 ∧ PoolAt H p ks ∧ RwAt H a cs ∧ cs.length ≤ 30 ∧
  ∀ x d H', Fr [j] H H' → WellAt H' j (t + 10) → Dp K H' x d → NtD d → Q x H'
theorem ok_note (Y : Fx K mg) : FnOk P w K mg base CX0 3 Y.a__law_note Y.fd__law_note ["_law_well_here", "_law_pool_here", "_law_rows"] (sp_note K) := by
  refine Y.F__law_note.ok sc__law_note (fun vs H Q E h => ?_) (fun cdv A outer st H vs Q E hr h => ?_)
  · obtain ⟨j, p, a, t, ks, cs, rfl, _⟩ := h
    rfl
  · obtain ⟨j, p, a, t, ks, cs, rfl, hW, ht, hP, hR, hl30, q⟩ := h
    have oP := hP.ne hW
    have oR := hR.ne hW
    refine ⟨_, b__law_note Y (ok_dip Y) (ok_given Y) (ok_word Y) hr, ?_⟩
    show t__law_note K _ _ _ _ [some (.ref j), some (.ref p), some (.ref a), none, none, none] H
    unfold t__law_note
    rw [show ("value" : Str) = S valT from rfl, show ("entries" : Str) = S entT from rfl]
    walk_at "rd"
    refine ⟨by show 2 ≤ sizeLine; decide, fun p1 hp1 => ?_⟩
    have S1 : Same H (upd H p1 (.lst [.non, .non])) := same_upd hp1
    have h1 : (upd H p1 (.lst [.non, .non])) p1 = some (.lst [.non, .non]) := upd_same
    generalize upd H p1 (.lst [.non, .non]) = H1 at S1 h1 ⊢
    walk_at "rd"
    refine a_ll h1 (hP.same S1).1 (Nat.le_trans (show _ ≤ 20 by have := hP.2.2.2.2; rw [tv_len]; show 2 + ks.length ≤ 20; omega) (by decide)) fun p2 hp2 => ?_
    have S2 := S1.trans (same_upd hp2 (o := .lst ([.non, .non] ++ tv ks)))
    have h2 : (upd H1 p2 (.lst ([.non, .non] ++ tv ks))) p2 = some (.lst ([.non, .non] ++ tv ks)) := upd_same
    generalize upd H1 p2 (.lst ([.non, .non] ++ tv ks)) = H2 at S2 h2 ⊢
    have hW2 := hW.same S2
    have o2 : p2 ∉ [j] := fun z => by
      have z := List.mem_singleton.mp z
      rw [z] at h2
      obtain ⟨g, m, c, e1, _⟩ := hW2
      rw [e1] at h2
      cases h2
    walk_at "rd"
    refine ⟨j, 2, t, rfl, hW2, by omega, by decide, fun l H3 hl hT hW3 hF3 => ?_⟩
    have h3 := hF3 _ _ o2 h2
    have G3 := (Fr.of (L := [j]) S2).trans hF3
    walk_at "rd"
    refine ⟨by show 1 ≤ sizeLine; decide, fun p4 hp4 => ?_⟩
    have S4 : Same H3 (upd H3 p4 (.lst [.str (S l)])) := same_upd hp4
    have h4 : (upd H3 p4 (.lst [.str (S l)])) p4 = some (.lst [.str (S l)]) := upd_same
    generalize upd H3 p4 (.lst [.str (S l)]) = H4 at S4 h4 ⊢
    refine a_ll (S4 _ _ h3) h4 (Nat.le_trans (show _ ≤ 20 by have := hP.2.2.2.2; rw [List.length_append, tv_len]; show 2 + ks.length + 1 ≤ 20; omega) (by decide)) fun p5 hp5 => ?_
    rw [ends_eq]
    have hos := ends_ok hP.2 hT (Nat.le_trans hl (by decide))
    have hol : ((none : Option (List Nat)) :: none :: (ks ++ [l]).map some).length = ks.length + 3 := by
      show ((ks ++ [l]).map some).length + 2 = _
      rw [List.length_map, List.length_append]
      rfl
    have hos2 : ∀ (i : Nat) (o : Option (List Nat)), ((none : Option (List Nat)) :: none :: (ks ++ [l]).map some)[i + 2]? = some o → ∃ v, o = some v := fun i o e => by
      have e : ((ks ++ [l]).map some)[i]? = some o := e
      obtain ⟨v, _, e3⟩ := List.mem_map.mp (List.mem_of_getElem? e)
      exact ⟨v, e3.symm⟩
    have hn1 := hP.2.2.2.1
    have hn2 := hP.2.2.2.2
    generalize ((none : Option (List Nat)) :: none :: (ks ++ [l]).map some) = os at hos hol hos2 ⊢
    have S5 := S4.trans (same_upd hp5 (o := .lst (os.map vlV)))
    have h5 : (upd H4 p5 (.lst (os.map vlV))) p5 = some (.lst (os.map vlV)) := upd_same
    generalize upd H4 p5 (.lst (os.map vlV)) = H5 at S5 h5 ⊢
    have hW5 := hW3.same S5
    have G5 := G3.trans (Fr.of (L := [j]) S5)
    have o5 : p5 ∉ [j] := fun z => by
      have z := List.mem_singleton.mp z
      rw [z] at h5
      obtain ⟨g, m, c, e1, _⟩ := hW5
      rw [e1] at h5
      have h6 := HO.lst.inj (Option.some.inj h5)
      cases os with
      | nil => cases h6
      | cons b r =>
        have h7 := (List.cons.inj h6).1
        cases b <;> cases h7
    have hml : ((os.map vlV).length : Int) = (ks.length : Int) + 3 := by rw [List.length_map, hol]; omega
    walk_at "rd"
    refine ln_l (lst_of h5) ?_
    walk_at "rd"
    refine ⟨j, _, _, rfl, hW5, by omega, by omega, by omega, fun r1 H6 r10 r11 hW6 hF6 => ?_⟩
    have h6 := hF6 _ _ o5 h5
    have gt : ∀ r : Int, 0 ≤ r → r < ((os.map vlV).length : Int) → ∃ o, atI (os.map vlV) r = some (vlV o) ∧ EndOk o := fun r r0 r1 => by
      have hr : r.toNat < os.length := by rw [List.length_map] at r1; omega
      refine ⟨os[r.toNat], ?_, hos _ (List.getElem_mem hr)⟩
      have := ends_get (List.getElem?_eq_getElem hr)
      have e : r = ((r.toNat : Nat) : Int) := by omega
      have e2 := atI_nat this
      rw [← e] at e2
      exact e2
    obtain ⟨lo, elo, hlo⟩ := gt r1 r10 r11
    refine ix_L (lst_of h6) elo ?_
    walk_at "rd"
    refine ln_l (lst_of h6) ?_
    walk_at "rd"
    refine ⟨j, _, _, rfl, hW6, by omega, by omega, by omega, fun r2 H7 r20 r21 hW7 hF7 => ?_⟩
    have h7 := hF7 _ _ o5 h6
    obtain ⟨hi, ehi, hhi⟩ := gt r2 r20 r21
    refine ix_L (lst_of h7) ehi ?_
    have G7 := (G5.trans hF6).trans hF7
    walk_at "rd"
    refine ⟨j, 3, _, rfl, hW7, by omega, by decide, by decide, fun r3 H8 r30 r31 hW8 hF8 => ?_⟩
    have h8 := hF8 _ _ o5 h7
    have G8 := G7.trans hF8
    have hR8 := hR.fr G8 oR
    have up : ∀ {x d H' H9}, Fr [j] H H9 → (∃ u, u ≤ t + 10 ∧ WellAt H9 j u) → Same H9 H' → Dp K H' x d → NtD d → Q x H' := fun {x} {d} {H'} {H9} g w s hd hn => by
      obtain ⟨u, hu, hw⟩ := w
      exact q x d H' (g.trans (Fr.of s)) ((hw.mono hu).same s) hd hn
    walk_at "rd"
    refine ite2' (fun e => ?_) (fun e => ?_)
    · walk_at "rd"
      refine ⟨Nat.zero_le _, fun p9 hp9 => ?_⟩
      have S9 : Same H8 (upd H8 p9 (.tup [])) := same_upd hp9
      generalize upd H8 p9 (.tup []) = H9 at S9 ⊢
      walk_at "rd"
      refine ⟨by show 4 ≤ sizeLine; decide, fun p10 hp10 => ?_⟩
      have S10 := same_new (o := .tup [.str (S entT), vlV lo, vlV hi, .ref p9]) S9 hp10
      have h10 : (upd H9 p10 (.tup [.str (S entT), vlV lo, vlV hi, .ref p9])) p10 = some (.tup [.str (S entT), vlV lo, vlV hi, .ref p9]) := upd_same
      refine ⟨a, p10, cs, rfl, hR8.same S10, hl30, .inr ⟨lo, hi, p9, h10, (fun v e => ⟨(hlo v e).1, Nat.le_trans (hlo v e).2 (by decide)⟩), fun v e => ⟨(hhi v e).1, Nat.le_trans (hhi v e).2 (by decide)⟩⟩, fun x d H' hs hd hn => up G8 ⟨_, by omega, hW8⟩ (S10.trans hs) hd hn⟩
    · walk_at "rd"
      refine ln_l (lst_of h8) ?_
      walk_at "rd"
      refine ⟨j, _, _, rfl, hW8, by omega, by omega, by omega, fun r4 H9 r40 r41 hW9 hF9 => ?_⟩
      have h9 := hF9 _ _ o5 h8
      have G9 := G8.trans hF9
      walk_at "rd"
      have hr4 : r4.toNat + 2 < os.length := by rw [List.length_map] at r41; omega
      have e4 := List.getElem?_eq_getElem hr4
      obtain ⟨v, ev⟩ := hos2 _ _ e4
      have hv := hos _ (List.getElem_mem hr4) v ev
      rw [ev] at e4
      have e5 := atI_nat (ends_get e4)
      rw [show (((r4.toNat + 2 : Nat) : Int)) = 2 + r4 by omega] at e5
      refine ix_L (lst_of h9) e5 ?_
      walk_at "rd"
      refine ⟨by show 3 ≤ sizeLine; decide, fun p10 hp10 => ?_⟩
      have S10 := same_upd (o := .tup [.str (S valT), .str (S v), .non]) hp10
      have h10 : (upd H9 p10 (.tup [.str (S valT), .str (S v), .non])) p10 = some (.tup [.str (S valT), .str (S v), .non]) := upd_same
      refine ⟨a, p10, cs, rfl, (hR.fr G9 oR).same S10, hl30, .inl ⟨v, h10, hv.1, Nat.le_trans hv.2 (by decide)⟩, fun x d H' hs hd hn => up G9 ⟨_, by omega, hW9⟩ (S10.trans hs) hd hn⟩
/-! rows with changes laid over -/
def dropL (cs : List Ch) (k : List Nat) : List Ch := cs.filter fun c => decide (c.1 ≠ k)
theorem drop_L (cs : List Ch) (k : List Nat) : dropK (cs.map kvD) (Sum.inr (S k) : Key) = (dropL cs k).map kvD := by
  unfold dropK dropL
  rw [List.filter_map]
  congr 1
  congr 1
  funext c
  exact decide_eq_decide.mpr (not_congr (by rw [kvD_eq]))
theorem dropL_ok {cs : List Ch} {k : List Nat} (h : RwOk cs) : RwOk (dropL cs k) := ⟨h.1.sublist (List.filter_sublist.map _), fun c hc => h.2 c (List.filter_sublist.subset hc)⟩
theorem dropL_some {cs : List Ch} {k : List Nat} (h : SomeC cs) : SomeC (dropL cs k) := fun c hc => h c (List.filter_sublist.subset hc)
theorem putL_some {cs : List Ch} {k v : List Nat} (h : SomeC cs) : SomeC (putL cs k (some v)) := by
  intro c hc
  unfold putL at hc
  split at hc
  · obtain ⟨d, hd, e⟩ := List.mem_map.mp hc
    by_cases hk : d.1 = k
    · rw [if_pos hk] at e
      rw [← e]
      rfl
    · rw [if_neg hk] at e
      rw [← e]
      exact h d hd
  · rcases List.mem_append.mp hc with hc | hc
    · exact h c hc
    · rw [List.mem_singleton.mp hc]
      rfl
theorem x_dpop2 {td ty tx : TE} {σ : L2.St} {H : Hp} {Q : VK} (h : td σ H fun x H1 => ∃ a, x = .ref a ∧ IsD H1 a ∧ ty σ H1 fun y H2 => tx σ H2 fun z H3 => ∃ kvs k, H3 a = some (.dK kvs) ∧ y = kV k ∧ (∀ v, valV kvs k = some v → Q v (upd H3 a (.dK (dropK kvs k)))) ∧ (valV kvs k = none → Q z H3)) : tDPop2 td ty tx σ H Q := h
def sp_laid (K : PySem.W.Frag) : Sp := fun vs H Q _ => ∃ (a : Addr) (y : V) (cs es : List Ch), vs = [.ref a, y] ∧ RwAt H a cs ∧ Dp K H y (chsD es) ∧ (∀ c ∈ es, TxC c) ∧ cs.length + es.length ≤ 100 ∧ ∀ p cs' H', Same H H' → RwAt H' p cs' → cs'.length ≤ cs.length + es.length → Q (.ref p) H'
theorem ok_laid (Y : Fx K mg) : FnOk P w K mg base CX0 1 Y.a__law_laid Y.fd__law_laid ["_law_rows", "_law_changes_here"] (sp_laid K) := by
  refine Y.F__law_laid.ok sc__law_laid (fun vs H Q E h => ?_) (fun cdv A outer st H vs Q E hr h => ?_)
  · obtain ⟨a, y, cs, es, rfl, _⟩ := h
    rfl
  · obtain ⟨a, y, cs, es, rfl, ⟨ha, hok, hso⟩, hy, hes, hle, q⟩ := h
    refine ⟨_, b__law_laid Y hr, ?_⟩
    show t__law_laid K _ [some (.ref a), some y, none, none] H
    unfold t__law_laid
    obtain ⟨r, us, rfl, hr0, hus⟩ := dp_tup' hy
    have hul := dpAll_len hus
    rw [List.length_map] at hul
    walk_at "rd"
    refine ⟨a, _, rfl, .inl ha, fun p hp => ?_⟩
    have Sp : Same H (upd H p (.dK (cs.map kvD))) := same_upd hp
    refine s_gn ?_
    show tSeq _ _ _ [some (.ref p), some (.ref r), none, none] _
    walk_at "rd"
    refine forT_mk (same_sqt Sp hr0) (fun i σ H' => ∃ (cs' : List Ch) (o2 o3 : Option V), σ = [some (.ref p), some (.ref r), o2, o3] ∧ H' p = some (.dK (cs'.map kvD)) ∧ RwOk cs' ∧ SomeC cs' ∧ cs'.length ≤ cs.length + i ∧ Same H H')
      ⟨cs, _, _, rfl, upd_same, hok, hso, Nat.le_refl _, Sp⟩ (fun i σ H1 hi hV => ?_) (fun i x σ H1 hx hV => ?_) (fun σ H1 hV => ?_)
    · obtain ⟨_, _, _, _, _, _, _, _, hS⟩ := hV
      exact same_sqt hS hr0
    · obtain ⟨cs', o2, o3, rfl, h1, hok', hso', hl', hS⟩ := hV
      obtain ⟨⟨k, o⟩, he, hx2⟩ := all_at hus hx
      have hte := hes _ (List.mem_of_getElem? he)
      have hil := (List.getElem?_eq_some_iff.mp hx).1
      have hx3 : Dp K H1 x (.tuple [.str (S k), vlD o]) := dp_mono hS _ _ hx2
      obtain ⟨q2, us2, rfl, hs2, hd2⟩ := dp_tup' hx3
      cases hd2 with
      | cons hk hd2 =>
        cases hd2 with
        | cons hv hd2 =>
          cases hd2
          cases hk
          cases o with
          | none =>
            cases hv
            refine gt_T hs2 rfl ?_
            walk_at "rd"
            refine x_dpop2 ?_
            refine x_var rfl ?_
            refine ⟨p, rfl, .inl ⟨_, .inl h1⟩, ?_⟩
            refine x_var rfl ?_
            refine x_c ?_
            refine ⟨_, Sum.inr (S k), h1, rfl, fun v hv => ?_, fun hv => ?_⟩
            · refine ⟨dropL cs' k, _, _, rfl, ?_, dropL_ok hok', dropL_some hso', Nat.le_trans List.filter_sublist.length_le (by omega), same_mut hS hp⟩
              rw [upd_same, drop_L]
            · exact ⟨cs', _, _, rfl, h1, hok', hso', by omega, hS⟩
          | some v =>
            cases hv
            refine gt_T hs2 rfl ?_
            walk_at "rd"
            refine ⟨p, _, rfl, DPut.k (k := Sum.inr (S k)) h1 (Nat.lt_of_le_of_lt (show _ ≤ 200 by rw [List.length_map]; omega) (by decide)), putL cs' k (some v), _, _, rfl, ?_, putL_ok hok' hte, putL_some hso', Nat.le_trans (putL_len _ _ _) (by omega), same_mut hS hp⟩
            rw [upd_same]
            exact congrArg (fun z => some (HO.dK z)) (put_L cs' k (some v))
    · obtain ⟨cs', o2, o3, rfl, h1, hok', hso', hl', hS⟩ := hV
      walk_at "rd"
      exact q p cs' H1 hS ⟨h1, hok', hso'⟩ (by omega)
end
end My

set_option Elab.async false
set_option linter.all false
set_option maxRecDepth 100000
set_option maxHeartbeats 1000000
namespace My
open PySem PySem.Spec PyProof.Rows L2
local macro_rules | `(tactic| walk_at "len") => `(tactic| first | assumption | omega | decide | (simp only [List.length_append, List.length_take, List.length_drop, List.length_cons, List.length_nil, List.length_replicate]; omega))
local macro_rules | `(tactic| walk_at "side") => `(tactic| first | assumption | exact Nat.zero_le _ | decide | omega)
local macro_rules | `(tactic| walk_at "rd1") => `(tactic| first
  | with_reducible refine s_seq ?_
  | with_reducible refine x_gsub ?_
  | with_reducible refine s_asg ?_
  | ((with_reducible refine s_gn ?_); dsimp only [List.set])
  | ((with_reducible refine x_var (v := ?rdv) ?rdhv ?_); (case rdhv => rfl))
  | with_reducible refine x_c ?_
  | with_reducible refine x_op ?_
  | with_reducible refine x_cons ?_
  | with_reducible refine x_nil ?_
  | with_reducible refine x_cb ?_
  | with_reducible refine x_call ?_
  | with_reducible refine x_callS ?_
  | with_reducible refine x_revT ?_
  | with_reducible refine x_dget ?_
  | with_reducible refine x_makeS ?_
  | with_reducible refine x_make ?_
  | with_reducible refine x_makeKS ?_
  | with_reducible refine x_methS ?_
  | with_reducible refine x_meth ?_
  | with_reducible refine x_methK ?_
  | with_reducible refine x_fld ?_
  | with_reducible refine s_fld ?_
  | with_reducible refine f_rt ?_
  | with_reducible refine f_zm ?_
  | with_reducible refine c_zm ?_
  | with_reducible refine x_din ?_
  | with_reducible refine x_dnotin ?_
  | with_reducible refine s_dput ?_
  | with_reducible refine x_dnew ?_
  | with_reducible refine s_try ?_
  | with_reducible refine s_raise ?_
  | with_reducible refine s_if ?_
  | with_reducible refine s_ret ?_
  | with_reducible refine s_retN ?_
  | with_reducible refine s_next ?_
  | with_reducible refine s_brk ?_
  | with_reducible refine s_cont ?_
  | with_reducible refine s_drop ?_
  | with_reducible refine s_par ?_
  | with_reducible refine s_par3 ?_
  | ((with_reducible refine s_p2 ?_); dsimp only [List.set])
  | ((with_reducible refine s_p3 ?_); dsimp only [List.set])
  | with_reducible refine f_r1 ?_
  | with_reducible refine f_r2 ?_
  | with_reducible refine f_l ?_
  | with_reducible refine f_t ?_
  | with_reducible refine f_s ?_
  | with_reducible refine c_r1 ?_
  | with_reducible refine c_r2 ?_
  | with_reducible refine c_l ?_
  | with_reducible refine c_t ?_
  | with_reducible refine c_s ?_
  | with_reducible refine x_tst ?_
  | with_reducible refine x_tru ?_
  | with_reducible refine x_truB ?_
  | with_reducible refine x_bl2 ?_
  | with_reducible refine x_int ?_
  | with_reducible refine x_str ?_
  | with_reducible refine x_not ?_
  | with_reducible refine x_and ?_
  | with_reducible refine x_or ?_
  | with_reducible refine x_andV ?_
  | with_reducible refine x_orV ?_
  | with_reducible refine x_notV ?_
  | with_reducible refine x_if ?_
  | with_reducible refine x_yes ?_
  | with_reducible refine x_un ?_
  | with_reducible refine x_tup ?_
  | with_reducible refine x_lst ?_
  | with_reducible refine x_callK ?_
  | with_reducible refine x_callK0 ?_
  | with_reducible refine x_bm ?_
  | with_reducible refine x_bm0 ?_
  | with_reducible refine x_tyS ?_
  | with_reducible refine x_sl ?_
  | with_reducible refine x_nopart ?_
  | with_reducible refine x_part ?_
  | with_reducible refine x_fmt0 ?_
  | with_reducible refine x_gc ?_
  | with_reducible refine x_gz ?_
  | with_reducible refine x_ckw ?_
  | with_reducible refine x_fmt ?_
  | with_reducible refine x_chain ?_
  | with_reducible refine a_ii ?_
  | ((with_reducible refine sl_to ?rda ?rdb ?_); (case rda => walk_at "len"); (case rdb => walk_at "len"))
  | ((with_reducible refine sl_from ?rda ?rdb ?_); (case rda => walk_at "len"); (case rdb => walk_at "len"))
  | ((with_reducible refine sl_mid ?rda ?rdb ?rdc ?_); (case rda => walk_at "len"); (case rdb => walk_at "len"); (case rdc => walk_at "len"))
  | ((with_reducible refine a_SS ?rda ?_); (case rda => walk_at "len"))
  | ((with_reducible refine ln_S ?rda ?_); (case rda => walk_at "len"))
  | with_reducible refine e_SS ?_
  | with_reducible refine ne_SS ?_
  | with_reducible refine s_ii ?_
  | ((with_reducible refine md_ii ?rdc ?_); (case rdc => first | decide | assumption | omega))
  | with_reducible refine n_i ?_
  | with_reducible refine e_ii ?_
  | with_reducible refine e_bb ?_
  | with_reducible refine ne_ii ?_
  | with_reducible refine ne_bb ?_
  | with_reducible refine lt_ii ?_
  | with_reducible refine lt_ss ?_
  | with_reducible refine le_ii ?_
  | with_reducible refine le_ss ?_
  | with_reducible refine gt_ii ?_
  | with_reducible refine gt_ss ?_
  | with_reducible refine ge_ii ?_
  | with_reducible refine e_ss ?_
  | with_reducible refine ne_ss ?_
  | with_reducible refine is_N ?_
  | with_reducible refine is_T ?_
  | with_reducible refine is_B ?_
  | with_reducible refine isn_N ?_
  | with_reducible refine isn_T ?_
  | with_reducible refine isn_B ?_
  | with_reducible refine in_s ?_
  | with_reducible refine nin_s ?_
  | with_reducible refine i_i ?_
  | with_reducible refine i_b ?_
  | with_reducible refine ab_i ?_
  | with_reducible refine mx_ii ?_
  | with_reducible refine mn_ii ?_
  | with_reducible refine ty_N ?_
  | with_reducible refine ty_B ?_
  | with_reducible refine ty_I ?_
  | with_reducible refine ty_S ?_
  | with_reducible refine ma_s ?_
  | with_reducible refine mp_s ?_
  | with_reducible refine mdg_s ?_
  | with_reducible refine mal_s ?_
  | with_reducible refine mlo_s ?_
  | with_reducible refine c_er ?_
  | with_reducible refine c_es ?_
  | with_reducible refine mf_s ?_
  | with_reducible refine iteT ?_
  | with_reducible refine iteF ?_
  | with_reducible refine iteNt ?_
  | with_reducible refine iteNf ?_
  | with_reducible refine iteTd (by decide) ?_
  | with_reducible refine iteFd (by decide) ?_
  | with_reducible refine iteNd (by decide) ?_
  | with_reducible refine iteNdF (by decide) ?_
  | ((with_reducible refine iteFd ?rdn ?_); (case rdn => (intro rdz; cases rdz; done)))
  | ((with_reducible refine iteNdF ?rdn ?_); (case rdn => (intro rdz; cases rdz; done))))
local macro_rules | `(tactic| walk_at "rd") => `(tactic| (repeat walk_at "rd1"))
section
variable {P : Program} {w : World} {K : PySem.W.Frag} {mg : Str → Option Value} {base : Heap}
theorem tv_ne {H : Hp} {q j : Addr} {ks : List (List Nat)} {t : Nat} (h : H q = some (.lst (tv ks))) (hW : WellAt H j t) : q ∉ [j] := by
  intro z
  have z := List.mem_singleton.mp z
  subst z
  obtain ⟨g, m, c, h1, _⟩ := hW
  rw [h1] at h
  cases ks with
  | nil => cases h
  | cons a r => cases h
/-! changes -/
def sp_changes (K : PySem.W.Frag) : Sp := fun vs H Q _ => ∃ (j q : Addr) (t : Nat) (ks : List (List Nat)), vs = [.ref j, .ref q, .int 3] ∧ WellAt H j t ∧ t + 30 ≤ 900000000 ∧ H q = some (.lst (tv ks)) ∧ (∀ l ∈ ks, isT l = true ∧ l.length ≤ 12) ∧ ks.length ≤ 100 ∧
  ∀ x cs H', Fr [j] H H' → WellAt H' j (t + 20) → Dp K H' x (chsD cs) → GoodC cs → cs.length ≤ 3 → Q x H'
theorem ok_changes (Y : Fx K mg) : FnOk P w K mg base CX0 3 Y.a__law_changes Y.fd__law_changes ["_law_well_here", "_law_keys", "_law_most"] (sp_changes K) := by
  refine Y.F__law_changes.ok sc__law_changes (fun vs H Q E h => ?_) (fun cdv A outer st H vs Q E hr h => ?_)
  · obtain ⟨j, q, t, ks, rfl, _⟩ := h
    rfl
  · obtain ⟨j, q, t, ks, rfl, hW, ht, hq, hks, hkl, fin⟩ := h
    have oq := tv_ne hq hW
    refine ⟨_, b__law_changes Y (ok_dip Y) (ok_word Y) hr, ?_⟩
    show t__law_changes K _ _ _ [some (.ref j), some (.ref q), some (.int 3), none, none, none, none] H
    unfold t__law_changes
    walk_at "rd"
    refine fun d hd => ?_
    have od := off1 hW hd
    have hdN := hd
    have hW1 := hW.same (same_upd hd (o := .dK []))
    have hF1 : Fr [j] H (upd H d (.dK [])) := (Fr.refl H).new hd
    have hH1 : upd H d (.dK []) d = some (.dK (([] : List Ch).map kvD)) := upd_same
    generalize upd H d (.dK []) = H1 at hW1 hF1 hH1
    refine s_gn ?_
    show tSeq _ _ _ [some (.ref j), some (.ref q), some (.int 3), some (.ref d), none, none, none] H1
    walk_at "rd"
    refine ⟨j, 3 + 1, t, rfl, hW1, by omega, by decide, by decide, fun m H2 m0 m1 hW2 hF2 => ?_⟩
    walk_at "rd"
    refine for1_mk (by omega) (by omega) (fun i σ H' => ∃ (cs : List Ch) (y4 y5 : Option V), σ = [some (.ref j), some (.ref q), some (.int 3), some (.ref d), y4, y5, none] ∧ WellAt H' j (t + 1 + 6 * i) ∧ Fr [j] H H' ∧ H' d = some (.dK (cs.map kvD)) ∧ RwOk cs ∧ cs.length ≤ i)
      ⟨[], _, _, rfl, hW2, hF1.trans hF2, hF2 d _ od hH1, RwOk.nil, Nat.zero_le _⟩ (fun i σ H3 hi hV => ?_) (fun σ H3 hV => ?_)
    · obtain ⟨cs, y4, y5, rfl, hW3, hF3, hd3, hok, hci⟩ := hV
      have hq3 := hF3 _ _ oq hq
      walk_at "rd"
      refine ⟨j, 3, _, rfl, hW3, by omega, by decide, fun lv H4 hlv hTv hW4 hF4 => ?_⟩
      have hd4 := hF4 d _ od hd3
      have hq4 := hF4 q _ oq hq3
      have G4 := hF3.trans hF4
      walk_at "rd"
      refine ⟨Nat.zero_le _, fun p hp => ?_⟩
      have S5 : Same H4 (upd H4 p (.lst [])) := same_upd hp
      have h5 : (upd H4 p (.lst [])) p = some (.lst []) := upd_same
      generalize upd H4 p (.lst []) = H5 at S5 h5 ⊢
      have hd5 := S5 _ _ hd4
      have hq5 := S5 _ _ hq4
      have hW5 := hW4.same S5
      have G5 := G4.trans (Fr.of (L := [j]) S5)
      refine ne_d (.lst (lst_of hq5) (dp_strs H5 ks)) (.lst (lst_of h5) .nil) (shaped_strs ks fun l hl => (hks l hl).1) (by decide) ?_
      have hne : (!PyData.eqv (.list (ks.map fun l => PyData.str (S l))) (.list [])) = true → ks ≠ [] := by
        rintro e rfl
        exact absurd e (by decide)
      revert hne
      generalize (!PyData.eqv (.list (ks.map fun l => PyData.str (S l))) (.list [])) = b
      intro hne
      walk_at "rd"
      refine ite2' (fun e => ?_) (fun e => ?_)
      · have hk0 : 0 < ks.length := List.length_pos_iff.mpr (hne e)
        walk_at "rd"
        refine ⟨by show 3 ≤ sizeLine; decide, fun x hx => ?_⟩
        have S6 := same_upd hx (o := .lst [V.str (S lv), .non, .str (S lv)])
        have ox := off1 hW5 hx
        have E6 : upd H5 x (.lst [V.str (S lv), .non, .str (S lv)]) x = some (.lst [V.str (S lv), .non, .str (S lv)]) := upd_same
        have hW6 := hW5.same S6
        have G6 := G5.trans (Fr.of (L := [j]) S6)
        have hd6 := S6 _ _ hd5
        have hq6 := S6 _ _ hq5
        generalize upd H5 x (.lst [V.str (S lv), .non, .str (S lv)]) = H6 at E6 hW6 G6 hd6 hq6 ⊢
        walk_at "rd"
        refine ⟨j, 3, _, rfl, hW6, by omega, by decide, by decide, fun r H7 r0 r1 hW7 hF7 => ?_⟩
        obtain ⟨n, rfl, hn⟩ : ∃ n : Nat, r = n ∧ n < 3 := ⟨r.toNat, by omega, by omega⟩
        obtain ⟨vv, ev, tv'⟩ : ∃ vv : Option (List Nat), [V.str (S lv), .non, .str (S lv)][n]? = some (vlV vv) ∧ ∀ z, vv = some z → isT z = true ∧ z.length ≤ 3 := by
          match n, hn with
          | 0, _ => exact ⟨some lv, rfl, fun z e => by cases e; exact ⟨hTv, hlv⟩⟩
          | 1, _ => exact ⟨none, rfl, fun z e => by cases e⟩
          | 2, _ => exact ⟨some lv, rfl, fun z e => by cases e; exact ⟨hTv, hlv⟩⟩
          | n + 3, h => omega
        refine ix_L (lst_of (hF7 _ _ ox E6)) (atI_nat ev) ?_
        have hd7 := hF7 d _ od hd6
        have hq7 := hF7 q _ oq hq6
        have G7 := G6.trans hF7
        walk_at "rd"
        refine ln_l (lst_of hq7) ?_
        walk_at "rd"
        refine ⟨j, _, _, rfl, hW7, by omega, by rw [tv_len]; omega, by rw [tv_len]; omega, fun r2 H8 r20 r21 hW8 hF8 => ?_⟩
        rw [tv_len] at r21
        obtain ⟨n2, rfl, hn2⟩ : ∃ n : Nat, r2 = n ∧ n < ks.length := ⟨r2.toNat, by omega, by omega⟩
        have hd8 := hF8 d _ od hd7
        have hq8 := hF8 q _ oq hq7
        refine ix_L (lst_of hq8) (atI_nat (tv_get (List.getElem?_eq_getElem hn2))) ?_
        have hkk := hks _ (List.getElem_mem hn2)
        generalize ks[n2] = key at hkk
        have hT : TxC (key, vv) := ⟨hkk, tv'⟩
        walk_at "rd"
        refine ⟨d, _, rfl, DPut.k (k := Sum.inr (S key)) hd8 (Nat.lt_of_le_of_lt (show _ ≤ 100 by rw [List.length_map]; omega) (by decide)), putL cs key vv, _, _, rfl, (hW8.mono (by omega)).keep (fun z => od (List.mem_singleton.mpr z)), (G7.trans hF8).mut hdN, ?_, putL_ok hok hT, Nat.le_trans (putL_len cs key vv) (by omega)⟩
        rw [upd_same]
        exact congrArg (fun z => some (HO.dK z)) (put_L cs key vv)
      · exact ⟨cs, _, _, rfl, hW5.mono (by omega), G5, hd5, hok, by omega⟩
    · obtain ⟨cs, y4, y5, rfl, hW3, hF3, hd3, hok, hci⟩ := hV
      have hcn : cs.length ≤ 3 := by omega
      walk_at "rd"
      refine ⟨d, cs.map kvD, (cs.map (·.1)).map S, rfl, .inl hd3, keys_kv cs, by rw [List.length_map, List.length_map]; omega, fun ys p2 hperm0 hsort hp2 => ?_⟩
      obtain ⟨ls, rfl, hperm⟩ := perm_S hperm0
      have S1 : Same H3 (upd H3 p2 (.lst ((ls.map S).map V.str))) := same_upd hp2
      have u1 : (upd H3 p2 (.lst ((ls.map S).map V.str))) p2 = some (.lst ((ls.map S).map V.str)) := upd_same
      generalize upd H3 p2 (.lst ((ls.map S).map V.str)) = H4 at S1 u1
      have hll : ls.length = cs.length := by rw [hperm.length_eq, List.length_map]
      refine lcL_mk (lst_of u1) (fun D i H' => Same H4 H' ∧ ∃ us, H' D = some (.lst us) ∧ DpAll K H' us ((rowsOf cs (ls.take i)).map chD) ∧ us.length ≤ i) (fun D hD => ⟨same_upd hD, [], upd_same, .nil, Nat.zero_le _⟩) (fun D i H' hD hi hq => lst_of (hq.1 _ _ u1)) (fun D i x H' hD hx hq => ?_) (fun D H' hD hq => ?_)
      · obtain ⟨hS, us, hdd, hus, hlu⟩ := hq
        have hil0 : i < ls.length := by
          have := (List.getElem?_eq_some_iff.mp hx).1
          rw [List.length_map, List.length_map] at this
          exact this
        rw [List.getElem?_map, List.getElem?_map] at hx
        obtain ⟨k, hk, rfl⟩ : ∃ k, ls[i]? = some k ∧ x = .str (S k) := by
          cases e : ls[i]? with
          | none => rw [e] at hx; cases hx
          | some k => rw [e] at hx; exact ⟨k, rfl, (Option.some.inj hx).symm⟩
        have hmem : k ∈ cs.map (·.1) := hperm.mem_iff.mp (List.mem_of_getElem? hk)
        obtain ⟨ev, hv⟩ := val_L hok hmem
        refine ⟨rfl, ?_⟩
        walk_at "rd"
        refine ⟨d, _, rfl, (by have := DGet.k (k := Sum.inr (S k)) (hS _ _ (S1 _ _ hd3)); rw [ev] at this; exact this), ?_⟩
        walk_at "rd"
        refine ⟨by show 2 ≤ sizeLine; decide, fun p4 hp4 => ?_⟩
        have oD : p4 ≠ D := ne_new hdd hp4
        have hd4 : (upd H' p4 (.tup [.str (S k), vlV (valL cs k)])) D = some (.lst us) := same_upd hp4 _ _ hdd
        have hS4 := same_new (o := .tup [.str (S k), vlV (valL cs k)]) hS hp4
        refine ⟨us, hd4, Nat.lt_of_le_of_lt (show us.length ≤ 100 by omega) (by decide), same_mut hS4 hD, us ++ [.ref p4], upd_same, ?_, by rw [List.length_append]; show us.length + 1 ≤ i + 1; omega⟩
        refine dps_acc hd4 (tup_chs _) ?_
        have e5 : (rowsOf cs (ls.take (i + 1))).map chD = (rowsOf cs (ls.take i)).map chD ++ [chD (k, valL cs k)] := by
          rw [take_snoc hk]
          unfold rowsOf
          rw [List.map_append, List.map_append]
          rfl
        rw [e5]
        exact dpa_app (dpAll_mono (same_upd hp4) _ _ hus) (.cons (.tup (tup_of upd_same) (.cons (.str _) (.cons (dp_vl _ _) .nil))) .nil)
      · obtain ⟨hS, us, hdd, hus, hlu⟩ := hq
        rw [show ((ls.map S).map V.str).length = ls.length from by rw [List.length_map, List.length_map], List.take_length] at hus
        have hg := rows_good hok hperm hsort (List.Sublist.refl ls)
        walk_at "rd"
        refine tu_L (lst_of hdd) fun l hl => ?_
        have SS := S1.trans (same_new (o := .tup us) hS hl)
        exact fin _ _ _ (hF3.trans (Fr.of SS)) ((hW3.mono (by omega)).same SS) (.tup (tup_of upd_same) (dpAll_mono (same_upd hl) _ _ hus)) hg (by unfold rowsOf; rw [List.length_map]; omega)
/-! the keys that commits change -/
def CoOk (n : Nat) (d : PyData) : Prop := ∃ (s : Nat) (b : Bool) (ns : List PyData) (cs : List Ch), d = .tuple [.int s, .bool b, .tuple ns, chsD cs] ∧ s ≤ n ∧ (∀ e ∈ ns, NtD e) ∧ ns.length ≤ 3 ∧ GoodC cs ∧ cs.length ≤ 3
def sp_barred (K : PySem.W.Frag) : Sp := fun vs H Q _ => ∃ (x : V) (ds : List PyData), vs = [x] ∧ Dp K H x (.tuple ds) ∧ (∀ d ∈ ds, ∃ n, CoOk n d) ∧ ds.length ≤ 7 ∧ ∀ p ls H', Same H H' → H' p = some (.lst (tv ls)) → Q (.ref p) H'
theorem ok_barred (Y : Fx K mg) : FnOk P w K mg base CX0 1 Y.a__law_barred Y.fd__law_barred ["_law_commits"] (sp_barred K) := by
  refine Y.F__law_barred.ok sc__law_barred (fun vs H Q E h => ?_) (fun cdv A outer st H vs Q E hr h => ?_)
  · obtain ⟨x, ds, rfl, _⟩ := h
    rfl
  · obtain ⟨x, ds, rfl, hx, hds, hl7, fin⟩ := h
    obtain ⟨r, us, rfl, hr0, hus⟩ := dp_tup' hx
    have hul := dpAll_len hus
    refine ⟨_, b__law_barred Y hr, ?_⟩
    show t__law_barred K _ [some (.ref r), none, none, none] H
    unfold t__law_barred
    walk_at "rd"
    refine ⟨Nat.zero_le _, fun p hp => ?_⟩
    have S1 : Same H (upd H p (.lst [])) := same_upd hp
    have h1 : (upd H p (.lst [])) p = some (.lst (tv [])) := upd_same
    generalize upd H p (.lst []) = H1 at S1 h1 ⊢
    walk_at "rd"
    refine forT_mk (same_sqt S1 hr0) (fun i σ H' => ∃ (q : Addr) (ls : List (List Nat)) (o2 o3 : Option V), σ = [some (.ref r), some (.ref q), o2, o3] ∧ H' q = some (.lst (tv ls)) ∧ ls.length ≤ 3 * i ∧ Same H H')
      ⟨p, [], _, _, rfl, h1, Nat.zero_le _, S1⟩ (fun i σ H2 hi hV => ?_) (fun i x σ H2 hx2 hV => ?_) (fun σ H2 hV => ?_)
    · obtain ⟨_, _, _, _, _, _, _, hS⟩ := hV
      exact same_sqt hS hr0
    · obtain ⟨q, ls, o2, o3, rfl, hq, hll, hS⟩ := hV
      have hi := (List.getElem?_eq_some_iff.mp hx2).1
      rw [hul] at hi
      obtain ⟨y, ey, hy⟩ := dpAll_get hus hi
      rw [hx2] at ey
      cases ey
      obtain ⟨n, s, b, ns, cs, ed, _, _, _, hg, hcl⟩ := hds _ (List.getElem_mem hi)
      rw [ed] at hy
      obtain ⟨r2, us2, rfl, hs2, hd2⟩ := dp_tup' (dp_mono hS _ _ hy)
      obtain ⟨z, iz, hz⟩ := dpAll_get hd2 (i := 3) (by show 3 < 4; decide)
      have hz : Dp K H2 z (chsD cs) := hz
      obtain ⟨r3, us3, rfl, hs3, hd3⟩ := dp_tup' hz
      have hl3 := dpAll_len hd3
      rw [List.length_map] at hl3
      walk_at "rd"
      refine ix_T hs2 (atI_nat (j := 3) iz) ?_
      refine lcT_mk hs3 (fun D i H' => Same H2 H' ∧ H' D = some (.lst (tv ((cs.take i).map (·.1))))) (fun D hD => ⟨same_upd hD, upd_same⟩) (fun D i H' hD hi hq => same_sqt hq.1 hs3) (fun D i x H' hD hx hq => ?_) (fun D H' hD hq => ?_)
      · obtain ⟨hS2, hDD⟩ := hq
        obtain ⟨⟨k, o⟩, he, hx3⟩ := all_at hd3 hx
        have hx4 : Dp K H' x (.tuple [.str (S k), vlD o]) := dp_mono hS2 _ _ hx3
        obtain ⟨q2, us4, rfl, hs4, hd4⟩ := dp_tup' hx4
        obtain ⟨z, iz, hz⟩ := dpAll_get hd4 (i := 0) (by show 0 < 2; decide)
        have hz : Dp K H' z (.str (S k)) := hz
        cases hz
        refine ⟨rfl, ?_⟩
        walk_at "rd"
        refine ix_T hs4 (atI_nat (j := 0) iz) ?_
        refine ⟨_, hDD, Nat.lt_of_le_of_lt (show _ ≤ 100 by rw [tv_len, List.length_map, List.length_take]; omega) (by decide), same_mut hS2 hD, ?_⟩
        rw [upd_same, take_snoc he, List.map_append, tv_app]
        rfl
      · obtain ⟨hS2, hDD⟩ := hq
        rw [hl3, List.take_length] at hDD
        refine a_ll (hS2 _ _ hq) hDD (Nat.le_trans (show _ ≤ 100 by rw [tv_len, tv_len, List.length_map]; omega) (by decide)) fun l hl => ?_
        refine s_gn ?_
        refine ⟨l, ls ++ cs.map (·.1), _, _, rfl, by rw [upd_same, tv_app], by rw [List.length_append, List.length_map]; omega, same_new (hS.trans hS2) hl⟩
    · obtain ⟨q, ls, o2, o3, rfl, hq, hll, hS⟩ := hV
      walk_at "rd"
      exact fin q ls H2 hS hq
end
end My

set_option Elab.async false
set_option linter.all false
set_option maxRecDepth 100000
set_option maxHeartbeats 1000000
namespace My
open PySem PySem.Spec PyProof.Rows L2
local macro_rules | `(tactic| walk_at "len") => `(tactic| first | assumption | omega | decide | (simp only [List.length_append, List.length_take, List.length_drop, List.length_cons, List.length_nil, List.length_replicate]; omega))
local macro_rules | `(tactic| walk_at "side") => `(tactic| first | assumption | exact Nat.zero_le _ | decide | omega)
local macro_rules | `(tactic| walk_at "rd1") => `(tactic| first
  | with_reducible refine s_seq ?_
  | with_reducible refine x_gsub ?_
  | with_reducible refine s_asg ?_
  | ((with_reducible refine s_gn ?_); dsimp only [List.set])
  | ((with_reducible refine x_var (v := ?rdv) ?rdhv ?_); (case rdhv => rfl))
  | with_reducible refine x_c ?_
  | with_reducible refine x_op ?_
  | with_reducible refine x_cons ?_
  | with_reducible refine x_nil ?_
  | with_reducible refine x_cb ?_
  | with_reducible refine x_call ?_
  | with_reducible refine x_callS ?_
  | with_reducible refine x_revT ?_
  | with_reducible refine x_dget ?_
  | with_reducible refine x_makeS ?_
  | with_reducible refine x_make ?_
  | with_reducible refine x_makeKS ?_
  | with_reducible refine x_methS ?_
  | with_reducible refine x_meth ?_
  | with_reducible refine x_methK ?_
  | with_reducible refine x_fld ?_
  | with_reducible refine s_fld ?_
  | with_reducible refine f_rt ?_
  | with_reducible refine f_zm ?_
  | with_reducible refine c_zm ?_
  | with_reducible refine x_din ?_
  | with_reducible refine x_dnotin ?_
  | with_reducible refine s_dput ?_
  | with_reducible refine x_dnew ?_
  | with_reducible refine s_try ?_
  | with_reducible refine s_raise ?_
  | with_reducible refine s_if ?_
  | with_reducible refine s_ret ?_
  | with_reducible refine s_retN ?_
  | with_reducible refine s_next ?_
  | with_reducible refine s_brk ?_
  | with_reducible refine s_cont ?_
  | with_reducible refine s_drop ?_
  | with_reducible refine s_par ?_
  | with_reducible refine s_par3 ?_
  | ((with_reducible refine s_p2 ?_); dsimp only [List.set])
  | ((with_reducible refine s_p3 ?_); dsimp only [List.set])
  | with_reducible refine f_r1 ?_
  | with_reducible refine f_r2 ?_
  | with_reducible refine f_l ?_
  | with_reducible refine f_t ?_
  | with_reducible refine f_s ?_
  | with_reducible refine c_r1 ?_
  | with_reducible refine c_r2 ?_
  | with_reducible refine c_l ?_
  | with_reducible refine c_t ?_
  | with_reducible refine c_s ?_
  | with_reducible refine x_tst ?_
  | with_reducible refine x_tru ?_
  | with_reducible refine x_truB ?_
  | with_reducible refine x_bl2 ?_
  | with_reducible refine x_int ?_
  | with_reducible refine x_str ?_
  | with_reducible refine x_not ?_
  | with_reducible refine x_and ?_
  | with_reducible refine x_or ?_
  | with_reducible refine x_andV ?_
  | with_reducible refine x_orV ?_
  | with_reducible refine x_notV ?_
  | with_reducible refine x_if ?_
  | with_reducible refine x_yes ?_
  | with_reducible refine x_un ?_
  | with_reducible refine x_tup ?_
  | with_reducible refine x_lst ?_
  | with_reducible refine x_callK ?_
  | with_reducible refine x_callK0 ?_
  | with_reducible refine x_bm ?_
  | with_reducible refine x_bm0 ?_
  | with_reducible refine x_tyS ?_
  | with_reducible refine x_sl ?_
  | with_reducible refine x_nopart ?_
  | with_reducible refine x_part ?_
  | with_reducible refine x_fmt0 ?_
  | with_reducible refine x_gc ?_
  | with_reducible refine x_gz ?_
  | with_reducible refine x_ckw ?_
  | with_reducible refine x_fmt ?_
  | with_reducible refine x_chain ?_
  | with_reducible refine a_ii ?_
  | ((with_reducible refine sl_to ?rda ?rdb ?_); (case rda => walk_at "len"); (case rdb => walk_at "len"))
  | ((with_reducible refine sl_from ?rda ?rdb ?_); (case rda => walk_at "len"); (case rdb => walk_at "len"))
  | ((with_reducible refine sl_mid ?rda ?rdb ?rdc ?_); (case rda => walk_at "len"); (case rdb => walk_at "len"); (case rdc => walk_at "len"))
  | ((with_reducible refine a_SS ?rda ?_); (case rda => walk_at "len"))
  | ((with_reducible refine ln_S ?rda ?_); (case rda => walk_at "len"))
  | with_reducible refine e_SS ?_
  | with_reducible refine ne_SS ?_
  | with_reducible refine s_ii ?_
  | ((with_reducible refine md_ii ?rdc ?_); (case rdc => first | decide | assumption | omega))
  | with_reducible refine n_i ?_
  | with_reducible refine e_ii ?_
  | with_reducible refine e_bb ?_
  | with_reducible refine ne_ii ?_
  | with_reducible refine ne_bb ?_
  | with_reducible refine lt_ii ?_
  | with_reducible refine lt_ss ?_
  | with_reducible refine le_ii ?_
  | with_reducible refine le_ss ?_
  | with_reducible refine gt_ii ?_
  | with_reducible refine gt_ss ?_
  | with_reducible refine ge_ii ?_
  | with_reducible refine e_ss ?_
  | with_reducible refine ne_ss ?_
  | with_reducible refine is_N ?_
  | with_reducible refine is_T ?_
  | with_reducible refine is_B ?_
  | with_reducible refine isn_N ?_
  | with_reducible refine isn_T ?_
  | with_reducible refine isn_B ?_
  | with_reducible refine in_s ?_
  | with_reducible refine nin_s ?_
  | with_reducible refine i_i ?_
  | with_reducible refine i_b ?_
  | with_reducible refine ab_i ?_
  | with_reducible refine mx_ii ?_
  | with_reducible refine mn_ii ?_
  | with_reducible refine ty_N ?_
  | with_reducible refine ty_B ?_
  | with_reducible refine ty_I ?_
  | with_reducible refine ty_S ?_
  | with_reducible refine ma_s ?_
  | with_reducible refine mp_s ?_
  | with_reducible refine mdg_s ?_
  | with_reducible refine mal_s ?_
  | with_reducible refine mlo_s ?_
  | with_reducible refine c_er ?_
  | with_reducible refine c_es ?_
  | with_reducible refine mf_s ?_
  | with_reducible refine iteT ?_
  | with_reducible refine iteF ?_
  | with_reducible refine iteNt ?_
  | with_reducible refine iteNf ?_
  | with_reducible refine iteTd (by decide) ?_
  | with_reducible refine iteFd (by decide) ?_
  | with_reducible refine iteNd (by decide) ?_
  | with_reducible refine iteNdF (by decide) ?_
  | ((with_reducible refine iteFd ?rdn ?_); (case rdn => (intro rdz; cases rdz; done)))
  | ((with_reducible refine iteNdF ?rdn ?_); (case rdn => (intro rdz; cases rdz; done))))
local macro_rules | `(tactic| walk_at "rd") => `(tactic| (repeat walk_at "rd1"))
section
variable {P : Program} {w : World} {K : PySem.W.Frag} {mg : Str → Option Value} {base : Heap}
/-! a history -/
def HiOk (ds : List PyData) : Prop := ∀ n d, ds[n]? = some d → CoOk n d
theorem ch_tup : ∀ cs : List Ch, tupD (chsD cs) = true := tup_chs
theorem nts_tup : ∀ {ds : List PyData}, (∀ e ∈ ds, NtD e) → tupDs ds = true
  | [], _ => rfl
  | d :: ds, h => by
    show (tupD d && tupDs ds) = true
    rw [(h d (.head _)).2.1, nts_tup fun e he => h e (.tail _ he)]
    rfl
theorem co_tup {n : Nat} {d : PyData} (h : CoOk n d) : tupD d = true := by
  obtain ⟨s, b, ns, cs, rfl, _, h1, _⟩ := h
  show (true && (true && (tupDs ns && (tupD (chsD cs) && true)))) = true
  rw [nts_tup h1, ch_tup]
  rfl
theorem cos_tup : ∀ {ds : List PyData}, (∀ d ∈ ds, ∃ n, CoOk n d) → tupDs ds = true
  | [], _ => rfl
  | d :: ds, h => by
    show (tupD d && tupDs ds) = true
    obtain ⟨n, hn⟩ := h d (.head _)
    rw [co_tup hn, cos_tup fun e he => h e (.tail _ he)]
    rfl
theorem HiOk.mem {ds : List PyData} (h : HiOk ds) : ∀ d ∈ ds, ∃ n, CoOk n d := fun d hd => by
  obtain ⟨n, hn, e⟩ := List.mem_iff_getElem.mp hd
  exact ⟨n, h n d (by rw [← e]; exact List.getElem?_eq_getElem hn)⟩
theorem HiOk.tup {ds : List PyData} (h : HiOk ds) : tupD (.tuple ds) = true := cos_tup h.mem
theorem HiOk.snoc {ds : List PyData} {d : PyData} (h : HiOk ds) (hd : CoOk ds.length d) : HiOk (ds ++ [d]) := by
  intro n e he
  by_cases hn : n < ds.length
  · rw [List.getElem?_append_left hn] at he
    exact h n e he
  · rw [List.getElem?_append_right (by omega)] at he
    have h0 : n - ds.length < 1 := (List.getElem?_eq_some_iff.mp he).1
    have e0 : n = ds.length := by omega
    subst e0
    rw [Nat.sub_self] at he
    cases he
    exact hd
theorem co_D {n : Nat} {d : PyData} (h : CoOk n d) : coD ((n : Int) + 1) d = true := by
  obtain ⟨s, b, ns, cs, rfl, hs, h1, _, hg, _⟩ := h
  show ((decide ((0 : Int) ≤ s) && decide ((s : Int) ≤ (n : Int) + 1 - 1)) && (true && (true && (ns.all noD && isChsD (chsD cs))))) = true
  rw [decide_eq_true (show (0 : Int) ≤ s by omega), decide_eq_true (show (s : Int) ≤ (n : Int) + 1 - 1 by omega), hg.1, List.all_eq_true.mpr fun e he => (h1 e he).1]
  rfl
theorem HiOk.hi {ds : List PyData} (h : HiOk ds) : hiD (.tuple ds) = true := by
  show ((List.range ds.length).all fun i => coD (((i : Nat) : Int) + 1) (ds.getD i .none)) = true
  rw [List.all_eq_true]
  intro i hi
  have hi := List.mem_range.mp hi
  refine co_D (h i _ ?_)
  rw [List.getD_eq_getElem?_getD, List.getElem?_eq_getElem hi]
  rfl
theorem fr_dps {L : List Addr} {H H' : Hp} (hF : Fr L H H') (hL : ∀ x ∈ L, ∀ o, H x = some o → NoT o) {ds : List PyData} {vs : List V} (ht : tupDs ds = true) (h : DpAll K H vs ds) : DpAll K H' vs ds := dpAll_mono (ms_le (L := L)) _ _ (dpAll_mono (ms_mono hF) _ _ (ms_dps hL ds vs ht h))
theorem a_snoc {H : Hp} {Q : VK} {p q : Addr} {xs : List V} {y : V} (hp : SqT K H p xs) (hq : SqT K H q [y]) (hl : xs.length ≤ 1000) (h : ∀ l H', Same H H' → SqT K H' l (xs ++ [y]) → Q (.ref l) H') : rADD K (.ref p) (.ref q) H Q := by
  refine a_tt hp hq (Nat.le_trans (show _ ≤ 2000 by show xs.length + 1 ≤ 2000; omega) (by decide)) ⟨fun e => ?_, fun _ e => (by cases e), fun _ _ l hl => ?_⟩
  · subst e
    exact h q H (fun _ _ h => h) hq
  · exact h l _ (same_upd hl) (tup_of upd_same)
def sp_history (K : PySem.W.Frag) : Sp := fun vs H Q _ => ∃ (j p a : Addr) (m : Int) (t : Nat) (ks : List (List Nat)) (cs : List Ch), vs = [.ref j, .ref p, .ref a, .int m, .int 3] ∧ 0 ≤ m ∧ m ≤ 7 ∧ WellAt H j t ∧ t + 480 ≤ 900000000 ∧ PoolAt H p ks ∧ RwAt H a cs ∧ cs.length ≤ 1 ∧
  ∀ x ds H', Fr [j] H H' → WellAt H' j (t + 480) → Dp K H' x (.tuple ds) → HiOk ds → ds.length ≤ 7 → Q x H'
theorem ok_history (Y : Fx K mg) : FnOk P w K mg base CX0 4 Y.a__law_history Y.fd__law_history ["_law_well_here", "_law_pool_here", "_law_rows", "_law_many", "_law_most"] (sp_history K) := by
  refine Y.F__law_history.ok sc__law_history (fun vs H Q E h => ?_) (fun cdv A outer st H vs Q E hr h => ?_)
  · obtain ⟨j, p, a, m, t, ks, cs, rfl, _⟩ := h
    rfl
  · obtain ⟨j, p, a, m, t, ks, cs0, rfl, hm0, hm7, hW, ht, hP, hR, hcs0, fin⟩ := h
    have oP := hP.ne hW
    have oR := hR.ne hW
    refine ⟨_, b__law_history Y (ok_barred Y) (ok_changes Y) (ok_dip Y) (ok_laid Y) (ok_note Y) hr, ?_⟩
    show t__law_history K _ _ _ _ _ _ [some (.ref j), some (.ref p), some (.ref a), some (.int m), some (.int 3), none, none, none, none, none, none, none, none, none] H
    unfold t__law_history
    walk_at "rd"
    refine ⟨by show 1 ≤ sizeLine; decide, fun q hq => ?_⟩
    have S1 : Same H (upd H q (.lst [.ref a])) := same_upd hq
    have h1 : (upd H q (.lst [.ref a])) q = some (.lst [.ref a]) := upd_same
    have oq := off1 hW hq
    have hqN := hq
    generalize upd H q (.lst [.ref a]) = H1 at S1 h1 ⊢
    walk_at "rd"
    refine ⟨Nat.zero_le _, fun x0 hx0 => ?_⟩
    have S2 := same_new (o := .tup []) S1 hx0
    have h2 := same_upd (o := .tup []) hx0 _ _ h1
    have e2 : SqT K (upd H1 x0 (.tup [])) x0 [] := tup_of upd_same
    generalize upd H1 x0 (.tup []) = H2 at S2 h2 e2 ⊢
    walk_at "rd"
    refine ⟨by show 2 ≤ sizeLine; decide, fun x1 hx1 => ?_⟩
    have S3 := same_new (o := .tup [.ref q, .ref x0]) S2 hx1
    have S23 := same_upd (o := .tup [.ref q, .ref x0]) hx1
    have e3 : SqT K (upd H2 x1 (.tup [.ref q, .ref x0])) x1 [.ref q, .ref x0] := tup_of upd_same
    have h3 := S23 _ _ h2
    have e2' := same_sqt S23 e2
    generalize upd H2 x1 (.tup [.ref q, .ref x0]) = H3 at S3 h3 e3 e2' ⊢
    refine gt_T e3 rfl ?_
    walk_at "rd"
    refine for1_mk (by omega) (by omega) (fun i σ H' => ∃ (pas ds' : List V) (hx : Addr) (ds : List PyData) (o7 o8 o9 o10 o11 : Option V), σ = [some (.ref j), some (.ref p), some (.ref a), some (.int m), some (.int 3), some (.ref q), some (.ref hx), o7, o8, o9, o10, o11, none, none] ∧
        H' q = some (.lst pas) ∧ pas.length = i + 1 ∧ (∀ v ∈ pas, ∃ b cs, v = .ref b ∧ RwAt H' b cs ∧ cs.length ≤ 1 + 3 * i) ∧ SqT K H' hx ds' ∧ DpAll K H' ds' ds ∧ HiOk ds ∧ ds.length = i ∧ WellAt H' j (t + 60 * i) ∧ Fr [j] H H')
      ⟨[.ref a], [], x0, [], _, _, _, _, _, rfl, h3, rfl, (fun v hv => ⟨a, cs0, List.mem_singleton.mp hv, hR.same S3, hcs0⟩), e2', .nil, (fun n d h => by cases h), rfl, hW.same S3, Fr.of S3⟩ (fun i σ H4 hi hV => ?_) (fun σ H4 hV => ?_)
    · obtain ⟨pas, us, hx, ds, o7, o8, o9, o10, o11, rfl, hq4, hpl, hps, hs4, hd4, hH, hdl, hW4, hF4⟩ := hV
      have hi7 : i < 7 := by omega
      have htup := cos_tup hH.mem
      walk_at "rd"
      refine ⟨j, _, _, rfl, hW4, by omega, by omega, by omega, fun s1 H5 s10 s11 hW5 hF5 => ?_⟩
      have hq5 := hF5 _ _ oq hq4
      walk_at "rd"
      refine ⟨by show 3 ≤ sizeLine; decide, fun p6 hp6 => ?_⟩
      have op6 := off1 hW5 hp6
      have S6 : Same H5 (upd H5 p6 (.lst [.int (i : Int), .int s1, .int 0])) := same_upd hp6
      have h6 : (upd H5 p6 (.lst [.int (i : Int), .int s1, .int 0])) p6 = some (.lst [.int (i : Int), .int s1, .int 0]) := upd_same
      generalize upd H5 p6 (.lst [.int (i : Int), .int s1, .int 0]) = H6 at S6 h6 ⊢
      have hW6 := hW5.same S6
      have hq6 := S6 _ _ hq5
      have G6 := hF5.trans (Fr.of (L := [j]) S6)
      walk_at "rd"
      refine ⟨j, 3, _, rfl, hW6, by omega, by decide, by decide, fun r H7 r0 r1 hW7 hF7 => ?_⟩
      obtain ⟨n, rfl, hn⟩ : ∃ n : Nat, r = n ∧ n < 3 := ⟨r.toNat, by omega, by omega⟩
      obtain ⟨s, es, hs⟩ : ∃ s : Nat, [V.int (i : Int), .int s1, .int 0][n]? = some (.int (s : Int)) ∧ s ≤ i := by
        match n, hn with
        | 0, _ => exact ⟨i, rfl, Nat.le_refl _⟩
        | 1, _ => exact ⟨s1.toNat, by show some (V.int s1) = some (.int ((s1.toNat : Nat) : Int)); rw [Int.toNat_of_nonneg s10], by omega⟩
        | 2, _ => exact ⟨0, rfl, Nat.zero_le _⟩
        | n + 3, h => omega
      refine ix_L (lst_of (hF7 _ _ op6 h6)) (atI_nat es) ?_
      have hq7 := hF7 _ _ oq hq6
      have G7 := G6.trans hF7
      have F7 := hF4.trans G7
      have hd7 := fr_dp (K := K) G7 hW4.notT (d := .tuple ds) htup (.tup hs4 hd4)
      obtain ⟨hx', us', eh, hs7, hd7⟩ := dp_tup' hd7
      cases eh
      walk_at "rd"
      refine sl_T hs7 fun p8 H8 S8 hp8 => ?_
      obtain ⟨ec, hec, hsub⟩ := cut_dps (lo := some (s : Int)) (hi := none) (dpAll_mono S8 _ _ hd7)
      refine x_nil ⟨_, ec, rfl, .tup hp8 hec, (fun d hd => hH.mem d (hsub.subset hd)), Nat.le_trans hsub.length_le (by omega), fun pb lb H9 S9 hb => ?_⟩
      have S79 := S8.trans S9
      have G9 := G7.trans (Fr.of (L := [j]) S79)
      have hW9 := hW7.same S79
      have hq9 := S79 _ _ hq7
      have ob := tv_ne hb hW9
      walk_at "rd"
      refine ⟨j, 3 + 1, _, rfl, hW9, by omega, by decide, by decide, fun z H10 z0 z1 hW10 hF10 => ?_⟩
      have hq10 := hF10 _ _ oq hq9
      have G10 := G9.trans hF10
      walk_at "rd"
      refine lcR1_mk (by omega) (by omega) (fun D n H' => WellAt H' j (t + 60 * i + 3 + 10 * n) ∧ Fr [j] H10 H' ∧ ∃ us nd, H' D = some (.lst us) ∧ DpAll K H' us nd ∧ (∀ e ∈ nd, NtD e) ∧ nd.length = n) (fun D hD => ⟨hW10.same (same_upd hD), (Fr.refl _).new hD, [], [], upd_same, .nil, (by intro _ h; cases h), rfl⟩) (fun D n H' hD hn2 hp => ?_) (fun D H11 hD hp => ?_)
      · obtain ⟨hW11, hF11, us1, nd, hDD, hnd, hnt, hnl⟩ := hp
        have G11 := G10.trans hF11
        refine ⟨rfl, ?_⟩
        obtain ⟨v, hv⟩ : ∃ v, pas[s]? = some v := ⟨_, List.getElem?_eq_getElem (by omega)⟩
        obtain ⟨b, cs, rfl, hRb, hcl⟩ := hps _ (List.mem_of_getElem? hv)
        walk_at "rd"
        refine ix_L (lst_of (hF11 _ _ oq hq10)) (atI_nat hv) ?_
        walk_at "rd"
        refine ⟨j, p, b, _, ks, cs, rfl, hW11, by omega, hP.fr (hF4.trans G11) oP, hRb.fr G11 (hRb.ne hW4), by omega, fun x d H12 hF12 hW12 hx12 hN => ?_⟩
        have oD := off1 hW10 hD
        have hD12 := hF12 _ _ oD hDD
        have ul := dpAll_len hnd
        have hnd12 := fr_dps (K := K) hF12 hW11.notT (nts_tup hnt) hnd
        have hnt2 : ∀ e ∈ nd ++ [d], NtD e := fun e he => by
          rcases List.mem_append.mp he with he | he
          · exact hnt e he
          · rw [List.mem_singleton.mp he]; exact hN
        refine ⟨us1, hD12, Nat.lt_of_le_of_lt (show us1.length ≤ 100 by omega) (by decide), (hW12.mono (by omega)).keep (fun z => oD (List.mem_singleton.mpr z)), (hF11.trans hF12).mut hD, us1 ++ [x], nd ++ [d], upd_same, ?_, hnt2, by rw [List.length_append, hnl]; rfl⟩
        exact dps_acc hD12 (nts_tup hnt2) (dpa_app hnd12 (.cons hx12 .nil))
      · obtain ⟨hW11, hF11, us1, nd, hDD, hnd, hnt, hnl⟩ := hp
        have hnl3 : nd.length ≤ 3 := by omega
        have hW11 := hW11.mono (show _ ≤ t + 60 * i + 33 by omega)
        have G11 := G10.trans hF11
        have hq11 := hF11 _ _ oq hq10
        refine x_nil ?_
        refine tu_L (lst_of hDD) fun pn hpn => ?_
        have S12 : Same H11 (upd H11 pn (.tup us1)) := same_upd hpn
        have hN12 : Dp K (upd H11 pn (.tup us1)) (.ref pn) (.tuple nd) := .tup (tup_of upd_same) (dpAll_mono S12 _ _ hnd)
        generalize upd H11 pn (.tup us1) = H12 at S12 hN12 ⊢
        have hW12 := hW11.same S12
        have G12 := G11.trans (Fr.of (L := [j]) S12)
        have hb12 := S12 _ _ (hF11 _ _ ob (hF10 _ _ ob hb))
        have hq12 := S12 _ _ hq11
        have hP12 := hP.fr (hF4.trans G12) oP
        walk_at "rd"
        refine lcL_mk (lst_of hP12.1) (fun D n H' => Same H12 H' ∧ ∃ es, H' D = some (.lst (tv es)) ∧ es.Sublist (ks.take n)) (fun D hD => ⟨same_upd hD, [], upd_same, List.nil_sublist _⟩) (fun D n H' hD hi hq => lst_of (hq.1 _ _ hP12.1)) (fun D n x H' hD hx hq => ?_) (fun D H13 hD hq => ?_)
        · obtain ⟨hS, es, hDD, hsub⟩ := hq
          obtain ⟨k, hk, rfl⟩ : ∃ k, ks[n]? = some k ∧ x = .str (S k) := by
            unfold tv at hx
            rw [List.getElem?_map] at hx
            cases e : ks[n]? with
            | none => rw [e] at hx; cases hx
            | some k => rw [e] at hx; exact ⟨k, rfl, (Option.some.inj hx).symm⟩
          have hnk := (List.getElem?_eq_some_iff.mp hk).1
          have hk6 := hP.2.2.2.2
          have htk := take_snoc hk
          refine ⟨rfl, ?_⟩
          walk_at "rd"
          refine .inr ⟨pb, tv lb, rfl, .inl (lst_of (hS _ _ hb12)), rfl, flat_tv lb, ?_⟩
          walk_at "rd"
          refine ite2' (fun e => ?_) (fun e => ?_)
          · walk_at "rd"
            refine ⟨_, hDD, Nat.lt_of_le_of_lt (show _ ≤ 100 by have := hsub.length_le; rw [List.length_take] at this; rw [tv_len]; omega) (by decide), same_mut hS hD, es ++ [k], by rw [upd_same, tv_app]; rfl, ?_⟩
            rw [htk]
            exact hsub.append (List.Sublist.refl _)
          · refine ⟨hS, es, hDD, ?_⟩
            rw [htk]
            exact hsub.trans (List.sublist_append_left _ _)
        · obtain ⟨hS, es, hDD, hsub⟩ := hq
          have hsub := hsub.trans (List.take_sublist _ _)
          have hW13 := hW12.same hS
          have G13 := G12.trans (Fr.of (L := [j]) hS)
          have hq13 := hS _ _ hq12
          have hN13 := dp_mono hS _ _ hN12
          walk_at "rd"
          refine ⟨j, D, _, es, rfl, hW13, by omega, hDD, (fun l hl => ⟨hP.2.1 l (hsub.subset hl), Nat.le_trans (hP.2.2.1 l (hsub.subset hl)) (by decide)⟩), Nat.le_trans hsub.length_le (by have := hP.2.2.2.2; omega), fun xc cs H14 hF14 hW14 hx14 hg14 hcl14 => ?_⟩
          have hq14 := hF14 _ _ oq hq13
          have G14 := G13.trans hF14
          have hN14 := fr_dp (K := K) hF14 hW13.notT (d := .tuple nd) (nts_tup hnt) hN13
          walk_at "rd"
          refine ⟨j, 4, _, rfl, hW14, by omega, by decide, by decide, fun r4 H15 r40 r41 hW15 hF15 => ?_⟩
          have hq15 := hF15 _ _ oq hq14
          have G15 := G14.trans hF15
          have hN15 := fr_dp (K := K) hF15 hW14.notT (d := .tuple nd) (nts_tup hnt) hN14
          have hx15 := fr_dp (K := K) hF15 hW14.notT (d := chsD cs) (ch_tup cs) hx14
          walk_at "rd"
          refine ⟨by show 4 ≤ sizeLine; decide, fun pc hpc => ?_⟩
          have S16 : ∀ o, Same H15 (upd H15 pc o) := fun o => same_upd hpc
          have hC : ∀ b : Bool, Dp K (upd H15 pc (.tup [.int (s : Int), .bl b, .ref pn, xc])) (.ref pc) (.tuple [.int (s : Int), .bool b, .tuple nd, chsD cs]) := fun b => .tup (tup_of upd_same) (.cons (.int _) (.cons (.bl _) (.cons (dp_mono (S16 _) _ _ hN15) (.cons (dp_mono (S16 _) _ _ hx15) .nil))))
          have hCo : ∀ b : Bool, CoOk ds.length (.tuple [.int (s : Int), .bool b, .tuple nd, chsD cs]) := fun b => ⟨s, b, nd, cs, rfl, by omega, hnt, hnl3, hg14, hcl14⟩
          generalize (decide ((0 : Int) < r4)) = b0
          have hC := hC b0
          have hCo := hCo b0
          have S16 := S16 (.tup [.int (s : Int), .bl b0, .ref pn, xc])
          generalize upd H15 pc (.tup [.int (s : Int), .bl b0, .ref pn, xc]) = H16 at hC S16 ⊢
          walk_at "rd"
          refine ⟨by show 1 ≤ sizeLine; decide, fun pd hpd => ?_⟩
          have S17 : Same H16 (upd H16 pd (.tup [.ref pc])) := same_upd hpd
          have h17 : SqT K (upd H16 pd (.tup [.ref pc])) pd [.ref pc] := tup_of upd_same
          generalize upd H16 pd (.tup [.ref pc]) = H17 at S17 h17 ⊢
          have S57 := S16.trans S17
          have hW17 := hW15.same S57
          have hq17 := S57 _ _ hq15
          have G17 := G15.trans (Fr.of (L := [j]) S57)
          have hx17 := dp_mono S57 _ _ hx15
          have hd17 := fr_dp (K := K) G17 hW4.notT (d := .tuple ds) htup (.tup hs4 hd4)
          obtain ⟨hx', us', eh, hs17, hd17⟩ := dp_tup' hd17
          cases eh
          have hl17 := dpAll_len hd17
          refine a_snoc hs17 h17 (by omega) fun ph H18 S18 hs18 => ?_
          have hW18 := hW17.same S18
          have hq18 := S18 _ _ hq17
          have G18 := G17.trans (Fr.of (L := [j]) S18)
          have hd18 : DpAll K H18 (us' ++ [.ref pc]) (ds ++ [.tuple [.int (s : Int), .bool b0, .tuple nd, chsD cs]]) := dpa_app (dpAll_mono S18 _ _ hd17) (.cons (dp_mono (S17.trans S18) _ _ hC) .nil)
          have hx18 := dp_mono S18 _ _ hx17
          walk_at "rd"
          obtain ⟨v, hv⟩ : ∃ v, pas[i]? = some v := ⟨_, List.getElem?_eq_getElem (by omega)⟩
          obtain ⟨b, cb, rfl, hRb, hcb⟩ := hps _ (List.mem_of_getElem? hv)
          refine x_tyL (lst_of hq18) ?_
          walk_at "rd"
          refine ix_L (lst_of hq18) (at_last hpl hv) ?_
          walk_at "rd"
          refine ⟨b, xc, cb, cs, rfl, hRb.fr G18 (hRb.ne hW4), hx18, hg14.2, by omega, fun pl cl H19 S19 hRl hcl => ?_⟩
          have hq19 := S19 _ _ hq18
          walk_at "rd"
          refine ap_L hq19 (by omega) ?_
          have hd19 := dpAll_mono S19 _ _ hd18
          have Gup : Fr [q] H19 (upd H19 q (.lst (pas ++ [.ref pl]))) := (Fr.refl _).upd (List.mem_singleton_self q)
          have hnoq : ∀ x ∈ [q], ∀ o, H19 x = some o → NoT o := fun x hx o e => by
            rw [List.mem_singleton.mp hx, hq19] at e
            cases e
            exact True.intro
          have rq : ∀ {b cs}, RwAt H19 b cs → RwAt (upd H19 q (.lst (pas ++ [.ref pl]))) b cs := fun {b} {cs} h => ⟨by
            rw [upd_ne (fun z => by have := h.1; rw [z, hq19] at this; cases this)]
            exact h.1, h.2⟩
          have hH2 := hH.snoc hCo
          refine ⟨pas ++ [.ref pl], us' ++ [.ref pc], ph, ds ++ [.tuple [.int (s : Int), .bool b0, .tuple nd, chsD cs]], _, _, _, _, _, rfl, upd_same, by rw [List.length_append, hpl]; rfl, ?_, ?_, fr_dps (K := K) Gup hnoq (cos_tup hH2.mem) hd19, hH2, by rw [List.length_append, hdl]; rfl, ((hW18.same S19).mono (by omega)).keep (fun z => oq (List.mem_singleton.mpr z)), ?_⟩
          · intro v hv
            rcases List.mem_append.mp hv with hv | hv
            · obtain ⟨b, cs, rfl, hRb, hcl⟩ := hps v hv
              exact ⟨b, cs, rfl, rq ((hRb.fr G18 (hRb.ne hW4)).same S19), by omega⟩
            · exact ⟨pl, cl, List.mem_singleton.mp hv, rq hRl, by omega⟩
          · have hs19 := same_sqt S19 hs18
            exact same_sqt ms_le (same_sqt (ms_mono Gup) (ms_sqt hnoq hs19))
          · exact (hF4.trans (G18.trans (Fr.of S19))).mut hqN
    · obtain ⟨pas, us, hx, ds, o7, o8, o9, o10, o11, rfl, hq4, hpl, hps, hs4, hd4, hH, hdl, hW4, hF4⟩ := hV
      walk_at "rd"
      exact fin _ ds H4 hF4 (hW4.mono (by omega)) (.tup hs4 hd4) hH (by omega)
end
end My

set_option Elab.async false
set_option linter.all false
set_option maxRecDepth 100000
set_option maxHeartbeats 1000000
namespace My
open PySem PySem.Spec PyProof.Rows L2
local macro_rules | `(tactic| walk_at "len") => `(tactic| first | assumption | omega | decide | (simp only [List.length_append, List.length_take, List.length_drop, List.length_cons, List.length_nil, List.length_replicate]; omega))
local macro_rules | `(tactic| walk_at "side") => `(tactic| first | assumption | exact Nat.zero_le _ | decide | omega)
local macro_rules | `(tactic| walk_at "rd1") => `(tactic| first
  | with_reducible refine s_seq ?_
  | with_reducible refine x_gsub ?_
  | with_reducible refine s_asg ?_
  | ((with_reducible refine s_gn ?_); dsimp only [List.set])
  | ((with_reducible refine x_var (v := ?rdv) ?rdhv ?_); (case rdhv => rfl))
  | with_reducible refine x_c ?_
  | with_reducible refine x_op ?_
  | with_reducible refine x_cons ?_
  | with_reducible refine x_nil ?_
  | with_reducible refine x_cb ?_
  | with_reducible refine x_call ?_
  | with_reducible refine x_callS ?_
  | with_reducible refine x_revT ?_
  | with_reducible refine x_dget ?_
  | with_reducible refine x_makeS ?_
  | with_reducible refine x_make ?_
  | with_reducible refine x_makeKS ?_
  | with_reducible refine x_methS ?_
  | with_reducible refine x_meth ?_
  | with_reducible refine x_methK ?_
  | with_reducible refine x_fld ?_
  | with_reducible refine s_fld ?_
  | with_reducible refine f_rt ?_
  | with_reducible refine f_zm ?_
  | with_reducible refine c_zm ?_
  | with_reducible refine x_din ?_
  | with_reducible refine x_dnotin ?_
  | with_reducible refine s_dput ?_
  | with_reducible refine x_dnew ?_
  | with_reducible refine s_try ?_
  | with_reducible refine s_raise ?_
  | with_reducible refine s_if ?_
  | with_reducible refine s_ret ?_
  | with_reducible refine s_retN ?_
  | with_reducible refine s_next ?_
  | with_reducible refine s_brk ?_
  | with_reducible refine s_cont ?_
  | with_reducible refine s_drop ?_
  | with_reducible refine s_par ?_
  | with_reducible refine s_par3 ?_
  | ((with_reducible refine s_p2 ?_); dsimp only [List.set])
  | ((with_reducible refine s_p3 ?_); dsimp only [List.set])
  | with_reducible refine f_r1 ?_
  | with_reducible refine f_r2 ?_
  | with_reducible refine f_l ?_
  | with_reducible refine f_t ?_
  | with_reducible refine f_s ?_
  | with_reducible refine c_r1 ?_
  | with_reducible refine c_r2 ?_
  | with_reducible refine c_l ?_
  | with_reducible refine c_t ?_
  | with_reducible refine c_s ?_
  | with_reducible refine x_tst ?_
  | with_reducible refine x_tru ?_
  | with_reducible refine x_truB ?_
  | with_reducible refine x_bl2 ?_
  | with_reducible refine x_int ?_
  | with_reducible refine x_str ?_
  | with_reducible refine x_not ?_
  | with_reducible refine x_and ?_
  | with_reducible refine x_or ?_
  | with_reducible refine x_andV ?_
  | with_reducible refine x_orV ?_
  | with_reducible refine x_notV ?_
  | with_reducible refine x_if ?_
  | with_reducible refine x_yes ?_
  | with_reducible refine x_un ?_
  | with_reducible refine x_tup ?_
  | with_reducible refine x_lst ?_
  | with_reducible refine x_callK ?_
  | with_reducible refine x_callK0 ?_
  | with_reducible refine x_bm ?_
  | with_reducible refine x_bm0 ?_
  | with_reducible refine x_tyS ?_
  | with_reducible refine x_sl ?_
  | with_reducible refine x_nopart ?_
  | with_reducible refine x_part ?_
  | with_reducible refine x_fmt0 ?_
  | with_reducible refine x_gc ?_
  | with_reducible refine x_gz ?_
  | with_reducible refine x_ckw ?_
  | with_reducible refine x_fmt ?_
  | with_reducible refine x_chain ?_
  | with_reducible refine a_ii ?_
  | ((with_reducible refine sl_to ?rda ?rdb ?_); (case rda => walk_at "len"); (case rdb => walk_at "len"))
  | ((with_reducible refine sl_from ?rda ?rdb ?_); (case rda => walk_at "len"); (case rdb => walk_at "len"))
  | ((with_reducible refine sl_mid ?rda ?rdb ?rdc ?_); (case rda => walk_at "len"); (case rdb => walk_at "len"); (case rdc => walk_at "len"))
  | ((with_reducible refine a_SS ?rda ?_); (case rda => walk_at "len"))
  | ((with_reducible refine ln_S ?rda ?_); (case rda => walk_at "len"))
  | with_reducible refine e_SS ?_
  | with_reducible refine ne_SS ?_
  | with_reducible refine s_ii ?_
  | ((with_reducible refine md_ii ?rdc ?_); (case rdc => first | decide | assumption | omega))
  | with_reducible refine n_i ?_
  | with_reducible refine e_ii ?_
  | with_reducible refine e_bb ?_
  | with_reducible refine ne_ii ?_
  | with_reducible refine ne_bb ?_
  | with_reducible refine lt_ii ?_
  | with_reducible refine lt_ss ?_
  | with_reducible refine le_ii ?_
  | with_reducible refine le_ss ?_
  | with_reducible refine gt_ii ?_
  | with_reducible refine gt_ss ?_
  | with_reducible refine ge_ii ?_
  | with_reducible refine e_ss ?_
  | with_reducible refine ne_ss ?_
  | with_reducible refine is_N ?_
  | with_reducible refine is_T ?_
  | with_reducible refine is_B ?_
  | with_reducible refine isn_N ?_
  | with_reducible refine isn_T ?_
  | with_reducible refine isn_B ?_
  | with_reducible refine in_s ?_
  | with_reducible refine nin_s ?_
  | with_reducible refine i_i ?_
  | with_reducible refine i_b ?_
  | with_reducible refine ab_i ?_
  | with_reducible refine mx_ii ?_
  | with_reducible refine mn_ii ?_
  | with_reducible refine ty_N ?_
  | with_reducible refine ty_B ?_
  | with_reducible refine ty_I ?_
  | with_reducible refine ty_S ?_
  | with_reducible refine ma_s ?_
  | with_reducible refine mp_s ?_
  | with_reducible refine mdg_s ?_
  | with_reducible refine mal_s ?_
  | with_reducible refine mlo_s ?_
  | with_reducible refine c_er ?_
  | with_reducible refine c_es ?_
  | with_reducible refine mf_s ?_
  | with_reducible refine iteT ?_
  | with_reducible refine iteF ?_
  | with_reducible refine iteNt ?_
  | with_reducible refine iteNf ?_
  | with_reducible refine iteTd (by decide) ?_
  | with_reducible refine iteFd (by decide) ?_
  | with_reducible refine iteNd (by decide) ?_
  | with_reducible refine iteNdF (by decide) ?_
  | ((with_reducible refine iteFd ?rdn ?_); (case rdn => (intro rdz; cases rdz; done)))
  | ((with_reducible refine iteNdF ?rdn ?_); (case rdn => (intro rdz; cases rdz; done))))
local macro_rules | `(tactic| walk_at "rd") => `(tactic| (repeat walk_at "rd1"))
section
variable {P : Program} {w : World} {K : PySem.W.Frag} {mg : Str → Option Value} {base : Heap}
/-! sizes -/
theorem nt_gd {d : PyData} (h : NtD d) : Gd 3 6504 d := by
  obtain ⟨_, _, ds, rfl, hg, _⟩ := h
  exact Gd.tup hg
theorem nt_no {d : PyData} (h : NtD d) : ∃ ds, d = .tuple ds ∧ NoS ds := by
  obtain ⟨_, _, ds, e, hg, hs⟩ := h
  exact ⟨ds, e, hg.mono (by decide) (Nat.le_refl _), hs⟩
theorem nts_gds {ns : List PyData} (h : ∀ e ∈ ns, NtD e) (hl : ns.length ≤ 3) : Gds 3 19600 ns := (Gds.all (k := 3) (W := 6504) fun d hd => nt_gd (h d hd)).mono (Nat.le_refl _) (by omega)
theorem chs_gds {cs : List Ch} (h : GoodC cs) (hl : cs.length ≤ 3) : Gds 1 510 (cs.map chD) := (gds_chs h.2).mono (Nat.le_refl _) (by omega)
theorem co_gds {s : Nat} {b : Bool} {ns : List PyData} {cs : List Ch} (hs : s ≤ 100) (h : ∀ e ∈ ns, NtD e) (hl : ns.length ≤ 3) (hc : GoodC cs) (hcl : cs.length ≤ 3) : Gds 4 20600 [.int s, .bool b, .tuple ns, .tuple (cs.map chD)] := by
  have g1 : Gd 4 140 (.int (s : Int)) := ⟨decide_eq_true (Nat.lt_of_le_of_lt (show ((s : Int)).natAbs ≤ 100 by omega) (by decide)), Nat.zero_le _, Nat.le_refl _⟩
  have g2 : Gd 4 5 (.bool b) := ⟨rfl, Nat.zero_le _, by show 5 ≤ 5; decide⟩
  have g3 : Gd 4 19604 (.tuple ns) := Gd.tup (nts_gds h hl)
  have g4 : Gd 4 514 (.tuple (cs.map chD)) := (Gd.tup (chs_gds hc hcl)).mono (by decide) (Nat.le_refl _)
  exact (Gds.cons g1 (Gds.cons g2 (Gds.cons g3 (Gds.cons g4 (Gds.nil (W := 0)))))).mono (Nat.le_refl _) (by decide)
theorem co_gd {n : Nat} {d : PyData} (h : CoOk n d) (hn : n ≤ 100) : Gd 5 20604 d := by
  obtain ⟨s, b, ns, cs, rfl, hs, h1, h2, h3, h4⟩ := h
  exact Gd.tup (co_gds (by omega) h1 h2 h3 h4)
theorem hi_gds {ds : List PyData} (h : HiOk ds) (hl : ds.length ≤ 7) : Gds 5 144300 ds := (Gds.all (k := 5) (W := 20604) fun d hd => by
  obtain ⟨n, hn, e⟩ := List.mem_iff_getElem.mp hd
  exact co_gd (h n d (by rw [← e]; exact List.getElem?_eq_getElem hn)) (by omega)).mono (Nat.le_refl _) (by omega)
theorem gv_of {k W : Nat} {d : PyData} (h : Gd k W d) (hk : k ≤ 60) (hW : W ≤ 500000) : Gv d := ⟨k, W, h, hk, hW⟩
theorem fr_same {L : List Addr} {H H' : Hp} (h : Fr L H H') (hn : ∀ x ∈ L, H x = none) : Same H H' := fun a o e => h a o (fun z => by rw [hn a z] at e; cases e) e
/-! the values -/
structure VsAt (K : PySem.W.Frag) (H0 H : Hp) (j v : Addr) (t : Nat) (us : List V) (ds : List PyData) : Prop where
  hv : H v = some (.lst us)
  hd : DpAll K (ms [j, v] H) us ds
  hg : ∀ d ∈ ds, Gd 12 490000 d
  hW : Wl [v] H j t
  hF : Fr [j] H0 H
  hn : H0 v = none
  ne : v ∉ [j]
theorem ms_shift {j l : Addr} {M : List Addr} {H1 H3 : Hp} (e : Same H1 H3) (hl : H1 l = none) : Same (ms (j :: M) H1) (ms [j, l] H3) := fun x o h => by
  have h1 := ms_out h
  have h2 := ms_le _ _ h
  refine ms_at (fun z => ?_) (e _ _ h2)
  rcases List.mem_cons.mp z with z | z
  · exact h1 (by rw [z]; exact List.mem_cons_self)
  · rw [List.mem_singleton.mp z, hl] at h2
    cases h2
variable {j v : Addr} {t : Nat} {us : List V} {ds : List PyData} {H0 H : Hp} {σ : L2.St} {nx b kk : L2.St → Hp → Prop} {rt : VK} {k W c i : Nat}
theorem wl_one {o : HO} (h : WellAt H j t) (hv : H v = some o) (ho : NoT o) : Wl [v] H j t := ⟨h, fun x hx => ⟨o, by rw [List.mem_singleton.mp hx]; exact hv, ho⟩⟩
theorem VsAt.fr {H' : Hp} {u : Nat} (h : VsAt K H0 H j v t us ds) (e : Fr [j] H H') (hw : WellAt H' j u) : VsAt K H0 H' j v u us ds :=
  ⟨e _ _ h.ne h.hv, dpAll_mono (ms_mono (fr_cons e)) _ _ h.hd, h.hg, h.hW.dip hw e, h.hF.trans e, h.hn, h.ne⟩
theorem VsAt.mono {u : Nat} (h : VsAt K H0 H j v t us ds) (e : t ≤ u) : VsAt K H0 H j v u us ds := ⟨h.hv, h.hd, h.hg, h.hW.mono e, h.hF, h.hn, h.ne⟩
theorem VsAt.app {e : TE} (h : VsAt K H0 H j v t us ds) (he : GE K j [v] H σ k W c e) (hk : k ≤ 12) (hw : W ≤ 490000) (hi : σ[i]? = some (some (.ref v))) (ht : t + c ≤ 900000000) (hl : us.length ≤ 1000) (q : ∀ z d H', VsAt K H0 H' j v (t + c) (us ++ [z]) (ds ++ [d]) → nx σ H') : tDrop (tBM K "list" rAppend (tVar i) (tCons e tNil)) ⟨nx, rt, b, kk⟩ σ H := by
  refine s_drop ?_
  refine x_bm ?_
  refine x_var hi ?_
  refine x_tyL (lst_of h.hv) ?_
  refine x_cons ?_
  refine he H t _ (Fr.refl H) h.hW ht fun z d H1 a1 b1 d1 g1 => ?_
  refine x_nil ?_
  refine ap_L (a1 _ _ h.ne h.hv) (by omega) ?_
  refine q z d _ ⟨upd_same, dpAll_mono (ms_upd (L := [j, v]) (List.mem_cons_of_mem _ (List.mem_singleton_self v))) _ _ (dpa_app (dps_fr h.hd a1) (.cons d1 .nil)), fun y hy => ?_, wl_one (b1.1.keep (fun z => h.ne (List.mem_singleton.mpr z))) upd_same True.intro, (h.hF.trans a1).mut h.hn, h.hn, h.ne⟩
  rcases List.mem_append.mp hy with hy | hy
  · exact h.hg y hy
  · rw [List.mem_singleton.mp hy]
    exact g1.mono hk hw
theorem VsAt.ext {n m : Nat} {r : TA} (h : VsAt K H0 H j v t us ds) (hr : GL K j [v] H σ n k W c r) (hk : k ≤ 12) (hw : W ≤ 490000) (hi : σ[i]? = some (some (.ref v))) (ht : t + c ≤ 900000000) (hl : us.length + n ≤ 1000) (q : ∀ z us' ds' H', us'.length = us.length + n → VsAt K H0 H' j z (t + c) us' ds' → nx (σ.set m (some (.ref z))) H') : tAsg (tOp (rADD K) (tVar i) (tLst r)) (gName m) ⟨nx, rt, b, kk⟩ σ H := by
  refine s_asg (x_op (x_var hi (x_lst ?_)))
  refine hr H t _ (Fr.refl H) h.hW ht fun xs es H1 l1 d1 g1 a1 b1 => ⟨Nat.le_trans (show xs.length ≤ 1000 by omega) (by decide), fun p hp => ?_⟩
  have S2 : Same H1 (upd H1 p (.lst xs)) := same_upd hp
  refine a_ll (S2 _ _ (a1 _ _ h.ne h.hv)) upd_same (Nat.le_trans (show us.length + xs.length ≤ 1000 by omega) (by decide)) fun l hl => s_gn ?_
  have S3 := same_new (o := .lst (us ++ xs)) S2 hl
  have hl1 : H1 l = none := S2.free hl
  have hW3 := b1.1.same S3
  refine q l (us ++ xs) (ds ++ es) _ (by rw [List.length_append, l1]) ⟨upd_same, dpAll_mono (ms_shift S3 hl1) _ _ (dpa_app (dps_fr h.hd a1) d1), fun y hy => ?_, wl_one hW3 upd_same True.intro, h.hF.trans (a1.trans (Fr.of S3)), ?_, off1 b1.1 hl1⟩
  · rcases List.mem_append.mp hy with hy | hy
    · exact h.hg y hy
    · exact (g1 y hy).mono hk hw
  · cases e : H0 l with
    | none => rfl
    | some o =>
      have := (h.hF.trans a1) _ _ (off1 b1.1 hl1) e
      rw [hl1] at this
      cases this
theorem vs_new {n m : Nat} {r : TA} (hF : Fr [j] H0 H) (hW : WellAt H j t) (hr : GL K j [] H σ n k W c r) (hk : k ≤ 12) (hw : W ≤ 490000) (ht : t + c ≤ 900000000) (hl : n ≤ 1000) (q : ∀ z us' ds' H', us'.length = n → VsAt K H0 H' j z (t + c) us' ds' → nx (σ.set m (some (.ref z))) H') : tAsg (tLst r) (gName m) ⟨nx, rt, b, kk⟩ σ H := by
  refine s_asg (x_lst ?_)
  refine hr H t _ (Fr.refl H) ⟨hW, fun x hx => by cases hx⟩ ht fun xs es H1 l1 d1 g1 a1 b1 => ⟨Nat.le_trans (show xs.length ≤ 1000 by omega) (by decide), fun l hl => s_gn ?_⟩
  have S3 : Same H1 (upd H1 l (.lst xs)) := same_upd hl
  have hW3 := b1.1.same S3
  refine q l xs es _ l1 ⟨upd_same, dpAll_mono (ms_shift S3 hl) _ _ d1, fun y hy => (g1 y hy).mono hk hw, wl_one hW3 upd_same True.intro, hF.trans (a1.trans (Fr.of S3)), ?_, off1 b1.1 hl⟩
  cases e : H0 l with
  | none => rfl
  | some o =>
    have := (hF.trans a1) _ _ (off1 b1.1 hl) e
    rw [hl] at this
    cases this
/-- a note's row -/
theorem rw_one {d : Addr} {l v : List Nat} (hl : isT l = true ∧ l.length ≤ 12) (hv : isT v = true ∧ v.length ≤ 3) (e : H d = some (.dK [((Sum.inr (S l) : Key), V.str (S v))])) : RwAt H d [(l, some v)] :=
  ⟨e, ⟨by show [l].Nodup; simp, fun c hc => by rw [List.mem_singleton.mp hc]; exact ⟨hl, fun v' e' => by cases e'; exact hv⟩⟩, fun c hc => by rw [List.mem_singleton.mp hc]; rfl⟩
end
end My

set_option Elab.async false
set_option linter.all false
set_option maxRecDepth 100000
set_option maxHeartbeats 1000000
namespace My
open PySem PySem.Spec PyProof.Rows L2
local macro_rules | `(tactic| walk_at "len") => `(tactic| first | assumption | omega | decide | (simp only [List.length_append, List.length_take, List.length_drop, List.length_cons, List.length_nil, List.length_replicate]; omega))
local macro_rules | `(tactic| walk_at "side") => `(tactic| first | assumption | exact Nat.zero_le _ | decide | omega)
local macro_rules | `(tactic| walk_at "rd1") => `(tactic| first
  | with_reducible refine s_seq ?_
  | with_reducible refine x_gsub ?_
  | with_reducible refine s_asg ?_
  | ((with_reducible refine s_gn ?_); dsimp only [List.set])
  | ((with_reducible refine x_var (v := ?rdv) ?rdhv ?_); (case rdhv => rfl))
  | with_reducible refine x_c ?_
  | with_reducible refine x_op ?_
  | with_reducible refine x_cons ?_
  | with_reducible refine x_nil ?_
  | with_reducible refine x_cb ?_
  | with_reducible refine x_call ?_
  | with_reducible refine x_callS ?_
  | with_reducible refine x_revT ?_
  | with_reducible refine x_dget ?_
  | with_reducible refine x_makeS ?_
  | with_reducible refine x_make ?_
  | with_reducible refine x_makeKS ?_
  | with_reducible refine x_methS ?_
  | with_reducible refine x_meth ?_
  | with_reducible refine x_methK ?_
  | with_reducible refine x_fld ?_
  | with_reducible refine s_fld ?_
  | with_reducible refine f_rt ?_
  | with_reducible refine f_zm ?_
  | with_reducible refine c_zm ?_
  | with_reducible refine x_din ?_
  | with_reducible refine x_dnotin ?_
  | with_reducible refine s_dput ?_
  | with_reducible refine x_dnew ?_
  | with_reducible refine s_try ?_
  | with_reducible refine s_raise ?_
  | with_reducible refine s_if ?_
  | with_reducible refine s_ret ?_
  | with_reducible refine s_retN ?_
  | with_reducible refine s_next ?_
  | with_reducible refine s_brk ?_
  | with_reducible refine s_cont ?_
  | with_reducible refine s_drop ?_
  | with_reducible refine s_par ?_
  | with_reducible refine s_par3 ?_
  | ((with_reducible refine s_p2 ?_); dsimp only [List.set])
  | ((with_reducible refine s_p3 ?_); dsimp only [List.set])
  | with_reducible refine f_r1 ?_
  | with_reducible refine f_r2 ?_
  | with_reducible refine f_l ?_
  | with_reducible refine f_t ?_
  | with_reducible refine f_s ?_
  | with_reducible refine c_r1 ?_
  | with_reducible refine c_r2 ?_
  | with_reducible refine c_l ?_
  | with_reducible refine c_t ?_
  | with_reducible refine c_s ?_
  | with_reducible refine x_tst ?_
  | with_reducible refine x_tru ?_
  | with_reducible refine x_truB ?_
  | with_reducible refine x_bl2 ?_
  | with_reducible refine x_int ?_
  | with_reducible refine x_str ?_
  | with_reducible refine x_not ?_
  | with_reducible refine x_and ?_
  | with_reducible refine x_or ?_
  | with_reducible refine x_andV ?_
  | with_reducible refine x_orV ?_
  | with_reducible refine x_notV ?_
  | with_reducible refine x_if ?_
  | with_reducible refine x_yes ?_
  | with_reducible refine x_un ?_
  | with_reducible refine x_tup ?_
  | with_reducible refine x_lst ?_
  | with_reducible refine x_callK ?_
  | with_reducible refine x_callK0 ?_
  | with_reducible refine x_bm ?_
  | with_reducible refine x_bm0 ?_
  | with_reducible refine x_tyS ?_
  | with_reducible refine x_sl ?_
  | with_reducible refine x_nopart ?_
  | with_reducible refine x_part ?_
  | with_reducible refine x_fmt0 ?_
  | with_reducible refine x_gc ?_
  | with_reducible refine x_gz ?_
  | with_reducible refine x_ckw ?_
  | with_reducible refine x_fmt ?_
  | with_reducible refine x_chain ?_
  | with_reducible refine a_ii ?_
  | ((with_reducible refine sl_to ?rda ?rdb ?_); (case rda => walk_at "len"); (case rdb => walk_at "len"))
  | ((with_reducible refine sl_from ?rda ?rdb ?_); (case rda => walk_at "len"); (case rdb => walk_at "len"))
  | ((with_reducible refine sl_mid ?rda ?rdb ?rdc ?_); (case rda => walk_at "len"); (case rdb => walk_at "len"); (case rdc => walk_at "len"))
  | ((with_reducible refine a_SS ?rda ?_); (case rda => walk_at "len"))
  | ((with_reducible refine ln_S ?rda ?_); (case rda => walk_at "len"))
  | with_reducible refine e_SS ?_
  | with_reducible refine ne_SS ?_
  | with_reducible refine s_ii ?_
  | ((with_reducible refine md_ii ?rdc ?_); (case rdc => first | decide | assumption | omega))
  | with_reducible refine n_i ?_
  | with_reducible refine e_ii ?_
  | with_reducible refine e_bb ?_
  | with_reducible refine ne_ii ?_
  | with_reducible refine ne_bb ?_
  | with_reducible refine lt_ii ?_
  | with_reducible refine lt_ss ?_
  | with_reducible refine le_ii ?_
  | with_reducible refine le_ss ?_
  | with_reducible refine gt_ii ?_
  | with_reducible refine gt_ss ?_
  | with_reducible refine ge_ii ?_
  | with_reducible refine e_ss ?_
  | with_reducible refine ne_ss ?_
  | with_reducible refine is_N ?_
  | with_reducible refine is_T ?_
  | with_reducible refine is_B ?_
  | with_reducible refine isn_N ?_
  | with_reducible refine isn_T ?_
  | with_reducible refine isn_B ?_
  | with_reducible refine in_s ?_
  | with_reducible refine nin_s ?_
  | with_reducible refine i_i ?_
  | with_reducible refine i_b ?_
  | with_reducible refine ab_i ?_
  | with_reducible refine mx_ii ?_
  | with_reducible refine mn_ii ?_
  | with_reducible refine ty_N ?_
  | with_reducible refine ty_B ?_
  | with_reducible refine ty_I ?_
  | with_reducible refine ty_S ?_
  | with_reducible refine ma_s ?_
  | with_reducible refine mp_s ?_
  | with_reducible refine mdg_s ?_
  | with_reducible refine mal_s ?_
  | with_reducible refine mlo_s ?_
  | with_reducible refine c_er ?_
  | with_reducible refine c_es ?_
  | with_reducible refine mf_s ?_
  | with_reducible refine iteT ?_
  | with_reducible refine iteF ?_
  | with_reducible refine iteNt ?_
  | with_reducible refine iteNf ?_
  | with_reducible refine iteTd (by decide) ?_
  | with_reducible refine iteFd (by decide) ?_
  | with_reducible refine iteNd (by decide) ?_
  | with_reducible refine iteNdF (by decide) ?_
  | ((with_reducible refine iteFd ?rdn ?_); (case rdn => (intro rdz; cases rdz; done)))
  | ((with_reducible refine iteNdF ?rdn ?_); (case rdn => (intro rdz; cases rdz; done))))
local macro_rules | `(tactic| walk_at "rd") => `(tactic| (repeat walk_at "rd1"))
section
variable {P : Program} {w : World} {K : PySem.W.Frag} {mg : Str → Option Value} {base : Heap}
/-! a turn's values -/
def tA (K : PySem.W.Frag) : TS := (tSeq (tAsg (tCall (sp_dip K) [] E0 (tCons (tVar 2) (tCons (tCB (rLEN K) (tCons (tVar 4) tNil)) tNil))) (gName 9))
          (tSeq (tDrop (tBM K "list" rAppend (tVar 6) (tCons (tCall (sp_put K) [] E0 (tCons (tVar 4) (tCons (tVar 9) (tCons (tCall (sp_oddc K) [] E0 (tCons (tVar 2) (tCons (tOp (rIX K) (tVar 4) (tVar 9)) (tCons (tOp (rADD K) (tVar 9) (tC (.int 1))) tNil)))) tNil)))) tNil)))
          (tDrop (tBM K "list" rAppend (tVar 6) (tCons (tOp (rADD K) (tSl (rSL K) (tVar 4) tNoPart (tPart (tVar 9))) (tSl (rSL K) (tVar 4) (tPart (tOp (rADD K) (tVar 9) (tC (.int 1)))) tNoPart)) tNil)))))
def tN (K : PySem.W.Frag) : TS := (tSeq (tAsg (tCall (sp_note K) [] E0 (tCons (tVar 2) (tCons (tVar 3) (tCons (tDisp [((tOp (rIX K) (tVar 3) (tC (.int 0))), (tC (.str (S [119]))))]) tNil)))) (gName 8))
        (tAsg (tOp (rADD K) (tVar 6) (tLst (tCons (tVar 8) (tCons (tCall (sp_oddn K) [] E0 (tCons (tVar 2) (tCons (tVar 8) tNil))) (tCons (tTup (tCons (tVar 8) tNil)) (tCons (tTup (tCons (tTup (tCons (tC (.int 0)) (tCons (tC (.bl true)) (tCons (tTup (tCons (tVar 8) tNil)) (tCons (tTup tNil) tNil))))) tNil)) tNil)))))) (gName 6)))
variable {j v p hp : Addr} {t u : Nat} {us : List V} {dvs ds : List PyData} {H0 H : Hp} {nx b kk : L2.St → Hp → Prop} {rt : VK} {o0 o1 y5 y7 y8 y9 y10 : Option V} {h4 : Option V}
theorem ok_tA (hx0 : Dp K H0 (.ref hp) (.tuple ds)) (hW0 : WellAt H0 j u) (hH : HiOk ds) (hne : 0 < ds.length) (hl7 : ds.length ≤ 7) (V0 : VsAt K H0 H j v t us dvs) (ht : t + 40 ≤ 900000000) (hul : us.length ≤ 900)
    (q : ∀ us' dvs' H' y9, us'.length = us.length + 2 → VsAt K H0 H' j v (t + 31) us' dvs' → nx [o0, o1, some (.ref j), some (.ref p), some (.ref hp), y5, some (.ref v), y7, y8, y9, y10] H') :
    tA K ⟨nx, rt, b, kk⟩ [o0, o1, some (.ref j), some (.ref p), some (.ref hp), y5, some (.ref v), y7, y8, y9, y10] H := by
  have htup : tupD (.tuple ds) = true := hH.tup
  have hgs := hi_gds hH hl7
  have hxA : ∀ {H' t us dvs}, VsAt K H0 H' j v t us dvs → Dp K H' (.ref hp) (.tuple ds) := fun V => fr_dp V.hF hW0.notT htup hx0
  obtain ⟨hp', ush, eh, hsh, hdh⟩ := dp_tup' (hxA V0)
  cases eh
  have hlh := dpAll_len hdh
  unfold tA
  refine s_seq ?_
  walk_at "rd"
  refine ln_t hsh ?_
  walk_at "rd"
  refine ⟨j, _, t, rfl, V0.hW.1, by omega, by omega, by omega, fun r H1 r0 r1 hW1 hF1 => ?_⟩
  obtain ⟨n, rfl, hn⟩ : ∃ n : Nat, r = n ∧ n < ds.length := ⟨r.toNat, by omega, by omega⟩
  refine s_gn ?_
  show tSeq _ _ _ [o0, o1, some (.ref j), some (.ref p), some (.ref hp), y5, some (.ref v), y7, y8, some (.int n), y10] H1
  refine s_seq ?_
  have V1 := V0.fr hF1 hW1
  have hm1 := ms_dp V1.hW.notT _ _ htup (hxA V1)
  have va : GT K j [v] H1 [o0, o1, some (.ref j), some (.ref p), some (.ref hp), y5, some (.ref v), y7, y8, some (.int n), y10] 7 144300 0 (tVar 4) := GT.va (i := 4) rfl hm1 (hgs.mono (by decide) (Nat.le_refl _))
  have uc : GE K j [v] H1 [o0, o1, some (.ref j), some (.ref p), some (.ref hp), y5, some (.ref v), y7, y8, some (.int n), y10] 7 140000 30 (tCall (sp_oddc K) [] E0 (tCons (tVar 2) (tCons (tOp (rIX K) (tVar 4) (tVar 9)) (tCons (tOp (rADD K) (tVar 9) (tC (.int 1))) tNil)))) := fun H t Q hF hW ht q => by
    refine x_call (x_cons (x_var rfl (x_cons (x_op (x_var rfl (x_var rfl ?_))))))
    obtain ⟨p', us, e, h1, h2⟩ := dp_tup' (dp_fr hm1 hF)
    cases e
    obtain ⟨v4, i4, dv4⟩ := dpAll_get h2 hn
    obtain ⟨s, b, ns, cs, ed, hs, hN, hn3, hg, hc3⟩ := hH n _ (List.getElem?_eq_getElem hn)
    rw [ed] at dv4
    refine ix_T (sqt_of h1) (atI_nat i4) (x_cons (x_op (x_var rfl (x_c (a_ii (x_nil ?_))))))
    exact ⟨j, [v], t, n + 1, v4, _, _, ns, cs.map chD, rfl, hW, ht, by omega, dv4, co_gds (by omega) hN hn3 hg hc3, fun d hd => nt_no (hN d hd), hn3, nts_gds hN hn3, (chs_gds hg hc3).mono (by decide) (by decide), q⟩
  refine V1.app (GE.mono (k2 := 12) (W2 := 490000) (c2 := 30) (GT.put va (rd_v (i := 9) rfl) uc (by decide) (by decide)).ge (by decide) (by decide) (by decide)) (by decide) (by decide) (i := 6) rfl (by omega) (by omega) fun z1 d1 H2 V2 => ?_
  have hm2 := ms_dp V2.hW.notT _ _ htup (hxA V2)
  have va2 : GT K j [v] H2 [o0, o1, some (.ref j), some (.ref p), some (.ref hp), y5, some (.ref v), y7, y8, some (.int n), y10] 7 144300 0 (tVar 4) := GT.va (i := 4) rfl hm2 (hgs.mono (by decide) (Nat.le_refl _))
  refine V2.app (GE.mono (k2 := 12) (W2 := 490000) (c2 := 0) (GT.ap (GT.sl va2 GO.no (GO.in (rd_v (i := 9) rfl))) (GT.sl va2 (GO.in (rd_a (rd_v (i := 9) rfl) rd_c)) GO.no) (by decide)).ge (by decide) (by decide) (by decide)) (by decide) (by decide) (i := 6) rfl (by omega) (by rw [List.length_append, List.length_singleton]; omega) fun z2 d2 H3 V3 => ?_
  exact q _ _ H3 _ (by rw [List.length_append, List.length_append]; rfl) (V3.mono (by omega))
theorem ok_tN {ks : List (List Nat)} {k0 : List Nat} (hP : PoolAt H p ks) (hk0 : ks[0]? = some k0) (V0 : VsAt K H0 H j v t us dvs) (ht : t + 40 ≤ 900000000) (hul : us.length ≤ 900)
    (q : ∀ z us' dvs' H' y8, us'.length = us.length + 4 → VsAt K H0 H' j z (t + 30) us' dvs' → nx [o0, o1, some (.ref j), some (.ref p), h4, y5, some (.ref z), y7, y8, y9, y10] H') :
    tN K ⟨nx, rt, b, kk⟩ [o0, o1, some (.ref j), some (.ref p), h4, y5, some (.ref v), y7, y8, y9, y10] H := by
  have hk1 : isT k0 = true ∧ k0.length ≤ 12 := ⟨hP.2.1 _ (List.mem_of_getElem? hk0), Nat.le_trans (hP.2.2.1 _ (List.mem_of_getElem? hk0)) (by decide)⟩
  unfold tN
  refine s_seq (s_asg (x_call (x_cons (x_var rfl (x_cons (x_var rfl (x_cons (x_disp fun d hd => ?_))))))))
  refine x_op (x_var rfl (x_c ?_))
  refine ix_L (lst_of (same_upd hd _ _ hP.1)) (atI_nat (j := 0) (tv_get hk0)) ?_
  refine x_c ⟨upd_same, [(Sum.inr (S k0), .str (S [119]))], rfl, by show 1 ≤ 15; decide, ?_⟩
  have Sd : Same H (upd (upd H d (.dK [])) d (.dK (mergeK [] [((Sum.inr (S k0) : Key), V.str (S [119]))]))) := same_mut (same_upd hd) hd
  have Ed : (upd (upd H d (.dK [])) d (.dK (mergeK [] [((Sum.inr (S k0) : Key), V.str (S [119]))]))) d = some (.dK [((Sum.inr (S k0) : Key), V.str (S [119]))]) := upd_same
  generalize upd (upd H d (.dK [])) d (.dK (mergeK [] [((Sum.inr (S k0) : Key), V.str (S [119]))])) = HD at Sd Ed ⊢
  have hR : RwAt HD d [(k0, some [119])] := rw_one hk1 ⟨by decide, by decide⟩ Ed
  have V1 := V0.fr (Fr.of Sd) (V0.hW.1.same Sd)
  refine x_nil ⟨j, p, d, t, ks, [(k0, some [119])], rfl, V1.hW.1, by omega, hP.same Sd, hR, by show 1 ≤ 30; decide, fun x dn H1 hF1 hW1 hx1 hN => ?_⟩
  refine s_gn ?_
  show tAsg _ _ _ [o0, o1, some (.ref j), some (.ref p), h4, y5, some (.ref v), y7, some x, y9, y10] H1
  have V2 := V1.fr hF1 hW1
  have hm := ms_dp V2.hW.notT _ _ hN.2.1 hx1
  obtain ⟨dsn, rfl, hNo⟩ := nt_no hN
  have vn : GE K j [v] H1 [o0, o1, some (.ref j), some (.ref p), h4, y5, some (.ref v), y7, some x, y9, y10] 3 6504 0 (tVar 8) := GE.va (i := 8) rfl hm (nt_gd hN)
  have vo : GE K j [v] H1 [o0, o1, some (.ref j), some (.ref p), h4, y5, some (.ref v), y7, some x, y9, y10] 5 40200 15 (tCall (sp_oddn K) [] E0 (tCons (tVar 2) (tCons (tVar 8) tNil))) := fun H t Q hF hW ht q => x_call (x_cons (x_var rfl (x_cons (x_var rfl (x_nil ⟨j, [v], t, x, dsn, rfl, hW, ht, dp_fr hm hF, hNo, q⟩)))))
  have v1 : GE K j [v] H1 [o0, o1, some (.ref j), some (.ref p), h4, y5, some (.ref v), y7, some x, y9, y10] 4 6600 0 (tTup (tCons (tVar 8) tNil)) := GE.mono (GE.tp (n := 1) (GL.cons0 vn GL.nil) (by decide)) (by decide) (by decide) (Nat.le_refl _)
  refine V2.ext (n := 4) (k := 12) (W := 490000) (c := 15) (i := 6) ?_ (by decide) (by decide) rfl (by omega) (by omega) fun z us' ds' H2 hl V3 => ?_
  · refine GL.cons0 (vn.mono (by decide) (by decide) (Nat.le_refl _)) (GL.cons (c1 := 15) (c2 := 0) (vo.mono (by decide) (by decide) (Nat.le_refl _)) (GL.cons0 (v1.mono (by decide) (by decide) (Nat.le_refl _)) (GL.cons0 ?_ GL.nil)))
    refine GE.mono (GE.tp (n := 1) (k := 5) (W := 27000) (GL.cons0 (GE.mono (GE.tp (n := 4) (k := 4) (W := 6600) (c := 0) (GL.cons0 ?_ (GL.cons0 ?_ (GL.cons0 v1 (GL.cons0 ?_ GL.nil)))) (by decide)) (by decide) (by decide) (Nat.le_refl _)) GL.nil) (by decide)) (by decide) (by decide) (Nat.le_refl _)
    · exact GE.mono (GE.ci (by decide)) (by decide) (by decide) (Nat.le_refl _)
    · exact GE.mono GE.cb (by decide) (by decide) (Nat.le_refl _)
    · exact GE.mono (GE.tq (n := 0) GL.nil (by decide)) (by decide) (by decide) (Nat.le_refl _)
  · exact q z us' ds' H2 _ hl (V3.mono (by omega))
end
end My

set_option Elab.async false
set_option linter.all false
set_option maxRecDepth 100000
set_option maxHeartbeats 1000000
namespace My
open PySem PySem.Spec PyProof.Rows L2
local macro_rules | `(tactic| walk_at "len") => `(tactic| first | assumption | omega | decide | (simp only [List.length_append, List.length_take, List.length_drop, List.length_cons, List.length_nil, List.length_replicate]; omega))
local macro_rules | `(tactic| walk_at "side") => `(tactic| first | assumption | exact Nat.zero_le _ | decide | omega)
local macro_rules | `(tactic| walk_at "rd1") => `(tactic| first
  | with_reducible refine s_seq ?_
  | with_reducible refine x_gsub ?_
  | with_reducible refine s_asg ?_
  | ((with_reducible refine s_gn ?_); dsimp only [List.set])
  | ((with_reducible refine x_var (v := ?rdv) ?rdhv ?_); (case rdhv => rfl))
  | with_reducible refine x_c ?_
  | with_reducible refine x_op ?_
  | with_reducible refine x_cons ?_
  | with_reducible refine x_nil ?_
  | with_reducible refine x_cb ?_
  | with_reducible refine x_call ?_
  | with_reducible refine x_callS ?_
  | with_reducible refine x_revT ?_
  | with_reducible refine x_dget ?_
  | with_reducible refine x_makeS ?_
  | with_reducible refine x_make ?_
  | with_reducible refine x_makeKS ?_
  | with_reducible refine x_methS ?_
  | with_reducible refine x_meth ?_
  | with_reducible refine x_methK ?_
  | with_reducible refine x_fld ?_
  | with_reducible refine s_fld ?_
  | with_reducible refine f_rt ?_
  | with_reducible refine f_zm ?_
  | with_reducible refine c_zm ?_
  | with_reducible refine x_din ?_
  | with_reducible refine x_dnotin ?_
  | with_reducible refine s_dput ?_
  | with_reducible refine x_dnew ?_
  | with_reducible refine s_try ?_
  | with_reducible refine s_raise ?_
  | with_reducible refine s_if ?_
  | with_reducible refine s_ret ?_
  | with_reducible refine s_retN ?_
  | with_reducible refine s_next ?_
  | with_reducible refine s_brk ?_
  | with_reducible refine s_cont ?_
  | with_reducible refine s_drop ?_
  | with_reducible refine s_par ?_
  | with_reducible refine s_par3 ?_
  | ((with_reducible refine s_p2 ?_); dsimp only [List.set])
  | ((with_reducible refine s_p3 ?_); dsimp only [List.set])
  | with_reducible refine f_r1 ?_
  | with_reducible refine f_r2 ?_
  | with_reducible refine f_l ?_
  | with_reducible refine f_t ?_
  | with_reducible refine f_s ?_
  | with_reducible refine c_r1 ?_
  | with_reducible refine c_r2 ?_
  | with_reducible refine c_l ?_
  | with_reducible refine c_t ?_
  | with_reducible refine c_s ?_
  | with_reducible refine x_tst ?_
  | with_reducible refine x_tru ?_
  | with_reducible refine x_truB ?_
  | with_reducible refine x_bl2 ?_
  | with_reducible refine x_int ?_
  | with_reducible refine x_str ?_
  | with_reducible refine x_not ?_
  | with_reducible refine x_and ?_
  | with_reducible refine x_or ?_
  | with_reducible refine x_andV ?_
  | with_reducible refine x_orV ?_
  | with_reducible refine x_notV ?_
  | with_reducible refine x_if ?_
  | with_reducible refine x_yes ?_
  | with_reducible refine x_un ?_
  | with_reducible refine x_tup ?_
  | with_reducible refine x_lst ?_
  | with_reducible refine x_callK ?_
  | with_reducible refine x_callK0 ?_
  | with_reducible refine x_bm ?_
  | with_reducible refine x_bm0 ?_
  | with_reducible refine x_tyS ?_
  | with_reducible refine x_sl ?_
  | with_reducible refine x_nopart ?_
  | with_reducible refine x_part ?_
  | with_reducible refine x_fmt0 ?_
  | with_reducible refine x_gc ?_
  | with_reducible refine x_gz ?_
  | with_reducible refine x_ckw ?_
  | with_reducible refine x_fmt ?_
  | with_reducible refine x_chain ?_
  | with_reducible refine a_ii ?_
  | ((with_reducible refine sl_to ?rda ?rdb ?_); (case rda => walk_at "len"); (case rdb => walk_at "len"))
  | ((with_reducible refine sl_from ?rda ?rdb ?_); (case rda => walk_at "len"); (case rdb => walk_at "len"))
  | ((with_reducible refine sl_mid ?rda ?rdb ?rdc ?_); (case rda => walk_at "len"); (case rdb => walk_at "len"); (case rdc => walk_at "len"))
  | ((with_reducible refine a_SS ?rda ?_); (case rda => walk_at "len"))
  | ((with_reducible refine ln_S ?rda ?_); (case rda => walk_at "len"))
  | with_reducible refine e_SS ?_
  | with_reducible refine ne_SS ?_
  | with_reducible refine s_ii ?_
  | ((with_reducible refine md_ii ?rdc ?_); (case rdc => first | decide | assumption | omega))
  | with_reducible refine n_i ?_
  | with_reducible refine e_ii ?_
  | with_reducible refine e_bb ?_
  | with_reducible refine ne_ii ?_
  | with_reducible refine ne_bb ?_
  | with_reducible refine lt_ii ?_
  | with_reducible refine lt_ss ?_
  | with_reducible refine le_ii ?_
  | with_reducible refine le_ss ?_
  | with_reducible refine gt_ii ?_
  | with_reducible refine gt_ss ?_
  | with_reducible refine ge_ii ?_
  | with_reducible refine e_ss ?_
  | with_reducible refine ne_ss ?_
  | with_reducible refine is_N ?_
  | with_reducible refine is_T ?_
  | with_reducible refine is_B ?_
  | with_reducible refine isn_N ?_
  | with_reducible refine isn_T ?_
  | with_reducible refine isn_B ?_
  | with_reducible refine in_s ?_
  | with_reducible refine nin_s ?_
  | with_reducible refine i_i ?_
  | with_reducible refine i_b ?_
  | with_reducible refine ab_i ?_
  | with_reducible refine mx_ii ?_
  | with_reducible refine mn_ii ?_
  | with_reducible refine ty_N ?_
  | with_reducible refine ty_B ?_
  | with_reducible refine ty_I ?_
  | with_reducible refine ty_S ?_
  | with_reducible refine ma_s ?_
  | with_reducible refine mp_s ?_
  | with_reducible refine mdg_s ?_
  | with_reducible refine mal_s ?_
  | with_reducible refine mlo_s ?_
  | with_reducible refine c_er ?_
  | with_reducible refine c_es ?_
  | with_reducible refine mf_s ?_
  | with_reducible refine iteT ?_
  | with_reducible refine iteF ?_
  | with_reducible refine iteNt ?_
  | with_reducible refine iteNf ?_
  | with_reducible refine iteTd (by decide) ?_
  | with_reducible refine iteFd (by decide) ?_
  | with_reducible refine iteNd (by decide) ?_
  | with_reducible refine iteNdF (by decide) ?_
  | ((with_reducible refine iteFd ?rdn ?_); (case rdn => (intro rdz; cases rdz; done)))
  | ((with_reducible refine iteNdF ?rdn ?_); (case rdn => (intro rdz; cases rdz; done))))
local macro_rules | `(tactic| walk_at "rd") => `(tactic| (repeat walk_at "rd1"))
section
variable {P : Program} {w : World} {K : PySem.W.Frag} {mg : Str → Option Value} {base : Heap}
def spLaw (K : PySem.W.Frag) : Sp := fun vs H Q _ => ∃ (a : Addr) (ns : List Int), vs = [.ref a] ∧ SqL K H a (ns.map V.int) ∧ ns.length ≤ 63 ∧ ∀ H', Q (.bl true) H'
theorem ok_law (Y : Fx K mg) : FnG P w K mg base CX0 9 Y.a_law Y.fd_law ["_law_script"] (spLaw K) := by
  refine My.Fun.okG Y.F_law sc_law (fun vs H Q E h => ?_) (fun cdv A outer st H vs Q E hgd hr h => ?_)
  · obtain ⟨a, ns, rfl, _⟩ := h
    rfl
  · obtain ⟨a, ns, rfl, hS, hl, q⟩ := h
    refine ⟨_, b_law Y (ok_dip Y) (ok_history Y) (ok_note Y) (ok_odd Y) (ok_oddc Y) (ok_oddn Y) (ok_pool Y) (ok_put Y) (ok_right Y) (ok_well Y) (ok_is_history Y) (ok_is_note Y) hgd hr, ?_⟩
    show t_law K _ _ _ _ _ _ _ _ _ _ _ _ _ [some (.ref a), none, none, none, none, none, none, none, none, none, none] H
    unfold t_law
    rw [show ("v" : Str) = S [118] from rfl, show ("w" : Str) = S [119] from rfl]
    walk_at "rd"
    refine pw_ii ⟨by decide, by decide, by decide⟩ ?_
    walk_at "rd"
    refine ⟨by show 2 ≤ sizeLine; decide, fun p1 hp1 => ?_⟩
    walk_at "rd"
    refine sl_L (Same.seq (same_upd hp1) hS) fun p2 hp2 => ?_
    rw [show (some (10 : Int)) = some ((10 : Nat) : Int) from rfl, cutV_to, ← List.map_take]
    refine a_ll (same_upd hp2 _ _ upd_same) upd_same (by rw [List.length_map, List.length_take]; exact Nat.le_trans (show 2 + min 10 ns.length ≤ 12 by omega) (by decide)) fun p3 hp3 => ?_
    have h3 : (upd (upd (upd H p1 (HO.lst [V.int 640273, V.int (10 ^ Int.toNat 60 + 5)])) p2 (HO.lst (List.map V.int (List.take 10 ns)))) p3 (.lst ([V.int 640273, V.int (10 ^ Int.toNat 60 + 5)] ++ List.map V.int (List.take 10 ns)))) p3 = some (.lst ((640273 :: (10 ^ Int.toNat 60 + 5) :: ns.take 10).map V.int)) := upd_same
    generalize upd (upd (upd H p1 (HO.lst [V.int 640273, V.int (10 ^ Int.toNat 60 + 5)])) p2 (HO.lst (List.map V.int (List.take 10 ns)))) p3 (.lst ([V.int 640273, V.int (10 ^ Int.toNat 60 + 5)] ++ List.map V.int (List.take 10 ns))) = HA at h3 ⊢
    refine forL_mk (lst_of h3) (fun i σ H' => ∃ y1 y2 y3 y4 y5 y6 y7 y8 y9 y10 : Option V, σ = [some (.ref a), y1, y2, y3, y4, y5, y6, y7, y8, y9, y10] ∧ Same HA H') ⟨_, _, _, _, _, _, _, _, _, _, rfl, Same.refl _⟩ (fun i σ H' _ hV => lst_of (by obtain ⟨_, _, _, _, _, _, _, _, _, _, _, e⟩ := hV; exact e _ _ h3)) (fun i x σ Hs hx hV => ?_) (fun σ H' hV => ?_)
    · obtain ⟨y1, y2, y3, y4, y5, y6, y7, y8, y9, y10, rfl, hS'⟩ := hV
      obtain ⟨z, _, rfl⟩ := map_get hx
      clear hx hS hl
      walk_at "rd"
      refine ⟨z, rfl, fun j H1 hj hW1 S1 => ?_⟩
      walk_at "rd"
      refine ⟨j, 5, _, rfl, hW1, by decide, by decide, by decide, fun r H2 r0 r1 hW2 hF2 => ?_⟩
      walk_at "rd"
      refine ⟨j, _, _, rfl, by omega, by omega, hW2, by decide, fun p ks H3 hP3 hW3 hF3 => ?_⟩
      obtain ⟨k0, hk0⟩ : ∃ k0, ks[0]? = some k0 := ⟨_, List.getElem?_eq_getElem hP3.2.2.2.1⟩
      have hk1 : isT k0 = true ∧ k0.length ≤ 12 := ⟨hP3.2.1 _ (List.mem_of_getElem? hk0), Nat.le_trans (hP3.2.2.1 _ (List.mem_of_getElem? hk0)) (by decide)⟩
      have oP := hP3.ne hW3
      walk_at "rd"
      refine x_disp fun d hd => ?_
      refine x_op (x_var rfl (x_c ?_))
      refine ix_L (lst_of (same_upd hd _ _ hP3.1)) (atI_nat (j := 0) (tv_get hk0)) ?_
      refine x_c ⟨upd_same, [(Sum.inr (S k0), .str (S [118]))], rfl, by show 1 ≤ 15; decide, ?_⟩
      have Sd : Same H3 (upd (upd H3 d (.dK [])) d (.dK (mergeK [] [((Sum.inr (S k0) : Key), V.str (S [118]))]))) := same_mut (same_upd hd) hd
      have Ed : (upd (upd H3 d (.dK [])) d (.dK (mergeK [] [((Sum.inr (S k0) : Key), V.str (S [118]))]))) d = some (.dK [((Sum.inr (S k0) : Key), V.str (S [118]))]) := upd_same
      generalize upd (upd H3 d (.dK [])) d (.dK (mergeK [] [((Sum.inr (S k0) : Key), V.str (S [118]))])) = H4 at Sd Ed ⊢
      have hR4 : RwAt H4 d [(k0, some [118])] := rw_one hk1 ⟨by decide, by decide⟩ Ed
      have hW4 := hW3.same Sd
      have oR := hR4.ne hW4
      walk_at "rd"
      refine ⟨j, 8, _, rfl, hW4, by decide, by decide, by decide, fun m H5 m0 m1 hW5 hF5 => ?_⟩
      walk_at "rd"
      refine ⟨j, p, d, m, _, ks, [(k0, some [118])], rfl, m0, by omega, hW5, by decide, (hP3.same Sd).fr hF5 oP, hR4.fr hF5 oR, by show 1 ≤ 1; decide, fun x ds H6 hF6 hW6 hx6 hH hl7 => ?_⟩
      have G6 : Fr [j] H1 H6 := (((hF2.trans hF3).trans (Fr.of Sd)).trans hF5).trans hF6
      have hP6 := ((hP3.same Sd).fr hF5 oP).fr hF6 oP
      have hgs := hi_gds hH hl7
      have gv : Gv (.tuple ds) := gv_of (Gd.tup hgs) (by decide) (by decide)
      obtain ⟨hp, us, rfl, hs6, hd6⟩ := dp_tup' hx6
      walk_at "rd"
      refine ⟨.ref hp, .tuple ds, rfl, hx6, gv, fun H7 S7 => ?_⟩
      walk_at "rd"
      refine ⟨.ref hp, .tuple ds, rfl, dp_mono S7 _ _ hx6, gv, fun H8 S8 => ?_⟩
      rw [hH.hi]
      walk_at "rd"
      have S8 := S7.trans S8
      have hk : HiOk ds := hH
      refine forT_mk (same_sqt S8 hs6) (fun i σ H' => ∃ y5 : Option V, σ = [some (.ref a), some (.int z), some (.ref j), some (.ref p), some (.ref hp), y5, y6, y7, y8, y9, y10] ∧ Same H6 H') ⟨_, rfl, S8⟩ (fun i σ H' hi hV => by obtain ⟨_, _, e⟩ := hV; exact same_sqt e hs6) (fun i x σ H9 hx hV => ?_) (fun σ H9 hV => ?_)
      · obtain ⟨y5, rfl, S9⟩ := hV
        have hi := (List.getElem?_eq_some_iff.mp hx).1
        rw [dpAll_len hd6] at hi
        obtain ⟨w1, ew, hw⟩ := dpAll_get hd6 hi
        rw [hx] at ew
        cases ew
        have hco := hH i _ (List.getElem?_eq_getElem hi)
        have gco := gv_of (co_gd hco (by omega)) (by decide) (by decide)
        have hw9 := dp_mono S9 _ _ hw
        have hw9' := hw9
        obtain ⟨s, b, nn, cs, ed, hs, hn, hn3, hg, hc3⟩ := id hco
        rw [ed] at hw9'
        obtain ⟨r2, us2, rfl, hs2, hd2⟩ := dp_tup' hw9'
        obtain ⟨v2, iz, hz⟩ := dpAll_get hd2 (i := 2) (by show 2 < 4; decide)
        have hz : Dp K H9 v2 (.tuple nn) := hz
        obtain ⟨r3, us3, rfl, hs3, hd3⟩ := dp_tup' hz
        have hl3 := dpAll_len hd3
        walk_at "rd"
        refine ix_T hs2 (atI_nat (j := 2) iz) ?_
        refine lcT_mk hs3 (fun D n H' => Same H9 H' ∧ H' D = some (.lst ((List.replicate n true).map V.bl))) (fun D hD => ⟨same_upd hD, upd_same⟩) (fun D n H' hD hi hq => same_sqt hq.1 hs3) (fun D n x H' hD hx hq => ?_) (fun D H' hD hq => ?_)
        · obtain ⟨hS2, hDD⟩ := hq
          have hn1 := (List.getElem?_eq_some_iff.mp hx).1
          rw [hl3] at hn1
          obtain ⟨w2, ew, hw2⟩ := dpAll_get hd3 hn1
          rw [hx] at ew
          cases ew
          have hN := hn _ (List.getElem_mem hn1)
          refine ⟨rfl, ?_⟩
          walk_at "rd"
          refine ⟨x, nn[n], rfl, dp_mono hS2 _ _ hw2, gv_of (nt_gd hN) (by decide) (by decide), fun H10 S10 => ?_⟩
          rw [hN.1]
          walk_at "rd"
          refine ⟨_, S10 _ _ hDD, Nat.lt_of_le_of_lt (show _ ≤ 100 by rw [List.length_map, List.length_replicate]; omega) (by decide), same_mut (hS2.trans S10) hD, ?_⟩
          rw [upd_same, List.replicate_succ', List.map_append]
          rfl
        · obtain ⟨hS2, hDD⟩ := hq
          refine x_nil ?_
          refine al_b (lst_of hDD) ?_
          rw [show (List.replicate us3.length true).all id = true from List.all_eq_true.mpr fun b hb => (List.mem_replicate.mp hb).2]
          walk_at "rd"
          refine ⟨.ref r2, ds[i], rfl, dp_mono hS2 _ _ hw9, gco, fun H10 S10 => ?_⟩
          walk_at "rd"
          exact ⟨_, rfl, (S9.trans hS2).trans S10⟩
      · obtain ⟨y5, rfl, S9⟩ := hV
        have hW9 := hW6.same S9
        have hx9 := dp_mono S9 _ _ hx6
        have hP9 := hP6.same S9
        have G9 := G6.trans (Fr.of (L := [j]) S9)
        have hsame : ∀ {H'}, Fr [j] H9 H' → Same HA H' := fun e => hS'.trans (fr_same ((Fr.of S1).trans (G9.trans e)) fun x hx => by rw [List.mem_singleton.mp hx]; exact hj)
        have htup : tupD (.tuple ds) = true := hH.tup
        have hm9 : Dp K (ms [j] H9) (.ref hp) (.tuple ds) := ms_dp hW9.notT _ _ htup hx9
        have va : GT K j [] H9 [some (.ref a), some (.int z), some (.ref j), some (.ref p), some (.ref hp), y5, y6, y7, y8, y9, y10] 5 144300 0 (tVar 4) := GT.va (i := 4) rfl hm9 hgs
        refine s_seq ?_
        refine vs_new (K := K) (H0 := H9) (n := 4) (k := 12) (W := 490000) (c := 2) (Fr.refl _) hW9 ?_ (by decide) (by decide) (by decide) (by decide) fun v0 us0 ds0 H10 hl0 V0 => ?_
        · refine GL.cons1 (GE.mono (GE.odd (i := 2) rfl) (by decide) (by decide) (Nat.le_refl _)) ?_
          refine GL.cons0 (GE.mono (GE.li va) (by decide) (by decide) (Nat.le_refl _)) ?_
          refine GL.cons1 (c := 0) (GE.mono (GT.ap va (GT.tp (n := 1) (k := 5) (W := 500) (GL.cons1 (c := 0) (GE.mono (GE.odd (i := 2) rfl) (by decide) (Nat.le_refl _) (Nat.le_refl _)) GL.nil) (by decide)) (by decide)).ge (by decide) (by decide) (by decide)) ?_
          exact GL.cons0 (GE.mono (GE.tp (n := 1) (GL.cons0 va.ge GL.nil) (by decide)) (by decide) (by decide) (Nat.le_refl _)) GL.nil
        · have V0 := V0.mono (show 0 + 1 + 60 + 1 + 480 + 2 ≤ 600 by decide)
          show tSeq _ _ _ [some (.ref a), some (.int z), some (.ref j), some (.ref p), some (.ref hp), y5, some (.ref v0), y7, y8, y9, y10] H10
          refine s_seq ?_
          refine f_r1 ?_
          refine x_cons (x_c (x_nil ?_))
          refine for1_mk (by decide) (by decide) (fun i σ H' => ∃ (v0 : Addr) (us0 : List V) (ds0 : List PyData) (y7 y8 y9 : Option V), σ = [some (.ref a), some (.int z), some (.ref j), some (.ref p), some (.ref hp), y5, some (.ref v0), y7, y8, y9, y10] ∧ VsAt K H9 H' j v0 (600 + 80 * i) us0 ds0 ∧ us0.length ≤ 4 + 6 * i)
            ⟨v0, us0, ds0, _, _, _, rfl, V0, by omega⟩ (fun i σ H' hi hV => ?_) (fun σ H' hV => ?_)
          · obtain ⟨v1, us1, ds1, y7, y8, y9, rfl, V1, hu1⟩ := hV
            have hi : i < 5 := hi
            refine s_gn ?_
            show tSeq _ (tN K) _ [some (.ref a), some (.int z), some (.ref j), some (.ref p), some (.ref hp), y5, some (.ref v1), some (.int i), y8, y9, y10] H'
            have rest : ∀ (rt : VK) (bk ck : L2.St → Hp → Prop) us2 ds2 H2 y9, VsAt K H9 H2 j v1 (600 + 80 * i + 40) us2 ds2 → us2.length ≤ us1.length + 2 → tN K ⟨fun σ H' => ∃ (v0 : Addr) (us0 : List V) (ds0 : List PyData) (y7 y8 y9 : Option V), σ = [some (.ref a), some (.int z), some (.ref j), some (.ref p), some (.ref hp), y5, some (.ref v0), y7, y8, y9, y10] ∧ VsAt K H9 H' j v0 (600 + 80 * (i + 1)) us0 ds0 ∧ us0.length ≤ 4 + 6 * (i + 1), rt, bk, ck⟩ [some (.ref a), some (.int z), some (.ref j), some (.ref p), some (.ref hp), y5, some (.ref v1), some (.int i), y8, y9, y10] H2 := fun _ _ _ us2 ds2 H2 y9 V2 hu2 => ok_tN (hP9.fr V2.hF (hP9.ne hW9)) hk0 V2 (by omega) (by omega) fun z3 us3 ds3 H3 y8 hl3 V3 => ⟨z3, us3, ds3, _, _, _, rfl, V3.mono (by omega), by omega⟩
            refine s_seq ?_
            refine s_if ?_
            refine x_tst ?_
            refine x_op (x_var rfl (x_tup (x_nil ⟨Nat.zero_le _, fun p2 hp2 => ?_⟩)))
            have S2 : Same H' (upd H' p2 (.tup [])) := same_upd hp2
            have u2 : (upd H' p2 (.tup [])) p2 = some (.tup []) := upd_same
            generalize upd H' p2 (.tup []) = H2 at S2 u2 ⊢
            have V2 := V1.fr (Fr.of S2) (V1.hW.1.same S2)
            refine ne_d (fr_dp V2.hF hW9.notT htup hx9) (.tup (tup_of u2) .nil) gv.shaped (by decide) ?_
            have hne : (!PyData.eqv (.tuple ds) (.tuple [])) = true → 0 < ds.length := fun e => by
              cases ds with
              | nil => exact absurd e (by decide)
              | cons d r => exact Nat.succ_pos _
            revert hne
            generalize (!PyData.eqv (.tuple ds) (.tuple [])) = b
            intro hne
            refine ⟨b, rfl, ?_⟩
            refine ite2' (fun e => ?_) (fun e => ?_)
            · refine ok_tA hx9 hW9 hH (hne e) hl7 V2 (by omega) (by omega) fun us3 ds3 H3 y9 hl3 V3 => ?_
              exact rest _ _ _ us3 ds3 H3 y9 (V3.mono (by omega)) (by omega)
            · refine s_next ?_
              exact rest _ _ _ us1 ds1 H2 y9 (V2.mono (by omega)) (by omega)
          · obtain ⟨v1, us1, ds1, y7, y8, y9, rfl, V1, hu1⟩ := hV
            have hu1 : us1.length ≤ 34 := hu1
            have hl1 := dpAll_len V1.hd
            refine s_if ?_
            refine x_not (x_tru (x_cb (x_cons (c_l (x_var rfl ?_)))))
            refine lcL_mk (lst_of V1.hv) (fun D n H2 => Same H' H2 ∧ H2 D = some (.lst ((List.replicate n true).map V.bl))) (fun D hD => ⟨same_upd hD, upd_same⟩) (fun D n H' hD hi hq => lst_of (hq.1 _ _ V1.hv)) (fun D n x H2 hD hx hq => ?_) (fun D H2 hD hq => ?_)
            · obtain ⟨hS2, hDD⟩ := hq
              have hn1 := (List.getElem?_eq_some_iff.mp hx).1
              rw [hl1] at hn1
              obtain ⟨w2, ew, hw2⟩ := dpAll_get V1.hd hn1
              rw [hx] at ew
              cases ew
              refine ⟨rfl, ?_⟩
              walk_at "rd"
              refine ⟨x, ds1[n], rfl, dp_mono hS2 _ _ (ms_un hw2), gv_of (V1.hg _ (List.getElem_mem hn1)) (by decide) (by decide), fun H10 S10 => ?_⟩
              walk_at "rd"
              refine ⟨_, S10 _ _ hDD, Nat.lt_of_le_of_lt (show _ ≤ 100 by rw [List.length_map, List.length_replicate]; omega) (by decide), same_mut (hS2.trans S10) hD, ?_⟩
              rw [upd_same, List.replicate_succ', List.map_append]
              rfl
            · obtain ⟨hS2, hDD⟩ := hq
              refine x_nil ?_
              refine al_b (lst_of hDD) ?_
              rw [show (List.replicate us1.length true).all id = true from List.all_eq_true.mpr fun b hb => (List.mem_replicate.mp hb).2]
              walk_at "rd"
              exact ⟨_, _, _, _, _, _, _, _, _, _, rfl, hsame (V1.hF.trans (Fr.of hS2))⟩
    · obtain ⟨y1, y2, y3, y4, y5, y6, y7, y8, y9, y10, rfl, hS'⟩ := hV
      walk_at "rd"
      exact q _
end
end My

set_option Elab.async false
set_option linter.all false
set_option maxRecDepth 100000
set_option maxHeartbeats 1000000
namespace My
open PySem PySem.Spec PyProof.Rows L2
theorem rel_kb_is_note_0 {vs : List V} {us : List Value} {zs : List V} {ws : List Value} (r1 : Vals vs us) (r2 : Vals zs ws) : Vals (gV_kb_is_note_0 vs zs) (g_kb_is_note_0 us ws) := by
  cases r1 with
  | cons _ _ => exact .nil
  | nil =>
    cases r2 with
    | nil => exact .nil
    | cons y0 r2 =>
      cases r2 with
      | cons _ _ => exact .nil
      | nil =>
        exact (.cons y0 .nil)

theorem kbm_kb_is_note_0 {K : PySem.W.Frag} {f : Addr} {fd : FuncData} (F : Fun K "is_note" "is_note" s_is_note f fd) : KBinds K fd ["value"] ["value"] g_kb_is_note_0 gV_kb_is_note_0 := by
  obtain ⟨oc, od, kV, doc, pm, an, cdv, ct, osl, rfl, lk, hcd⟩ := F.ex
  refine ⟨fun s us ws _ hl => ?_, rel_kb_is_note_0⟩
  have hp : ∃ y0, us = [] ∧ ws = [y0] := by
    unfold g_kb_is_note_0 at hl
    split at hl
    · exact ⟨_, rfl, rfl⟩
    · cases hl
  obtain ⟨y0, rfl, rfl⟩ := hp
  exact BindsTo.of_eq rfl
theorem rel_kb_is_history_0 {vs : List V} {us : List Value} {zs : List V} {ws : List Value} (r1 : Vals vs us) (r2 : Vals zs ws) : Vals (gV_kb_is_history_0 vs zs) (g_kb_is_history_0 us ws) := by
  cases r1 with
  | cons _ _ => exact .nil
  | nil =>
    cases r2 with
    | nil => exact .nil
    | cons y0 r2 =>
      cases r2 with
      | cons _ _ => exact .nil
      | nil =>
        exact (.cons y0 .nil)

theorem kbm_kb_is_history_0 {K : PySem.W.Frag} {f : Addr} {fd : FuncData} (F : Fun K "is_history" "is_history" s_is_history f fd) : KBinds K fd ["value"] ["value"] g_kb_is_history_0 gV_kb_is_history_0 := by
  obtain ⟨oc, od, kV, doc, pm, an, cdv, ct, osl, rfl, lk, hcd⟩ := F.ex
  refine ⟨fun s us ws _ hl => ?_, rel_kb_is_history_0⟩
  have hp : ∃ y0, us = [] ∧ ws = [y0] := by
    unfold g_kb_is_history_0 at hl
    split at hl
    · exact ⟨_, rfl, rfl⟩
    · cases hl
  obtain ⟨y0, rfl, rfl⟩ := hp
  exact BindsTo.of_eq rfl
def fx_mk {K : PySem.W.Frag} {h : Heap} {mg : Str → Option Value} (X : K.In h) (G : h.Ns mainGlobals mg)
    {f0 : Addr} {od0 an0 : Option Addr} {sl0 : Array (Option Value)} {oc0 kV0 dc0 pm0 cd0 ct0 : Value}
    (a0 : PySem.W.nsIn K mainGlobals "is_text" = some (some (.ref f0))) (l0 : K.lookup f0 = some ⟨oc0, od0, .func (PySem.W.fnOf "is_text" "is_text" (defArgs s_is_text) (defBody s_is_text) (defScope s_is_text) .none kV0 dc0 pm0 an0 cd0 ct0), sl0⟩) (c0 : PySem.W.codeIn K cd0 "is_text" = true) (k0 : PySem.W.keepIn K (.ref f0) = true)
    {f1 : Addr} {od1 an1 : Option Addr} {sl1 : Array (Option Value)} {oc1 kV1 dc1 pm1 cd1 ct1 : Value}
    (a1 : PySem.W.nsIn K mainGlobals "is_changes" = some (some (.ref f1))) (l1 : K.lookup f1 = some ⟨oc1, od1, .func (PySem.W.fnOf "is_changes" "is_changes" (defArgs s_is_changes) (defBody s_is_changes) (defScope s_is_changes) .none kV1 dc1 pm1 an1 cd1 ct1), sl1⟩) (c1 : PySem.W.codeIn K cd1 "is_changes" = true) (k1 : PySem.W.keepIn K (.ref f1) = true)
    {f2 : Addr} {od2 an2 : Option Addr} {sl2 : Array (Option Value)} {oc2 kV2 dc2 pm2 cd2 ct2 : Value}
    (a2 : PySem.W.nsIn K mainGlobals "is_change" = some (some (.ref f2))) (l2 : K.lookup f2 = some ⟨oc2, od2, .func (PySem.W.fnOf "is_change" "is_change" (defArgs s_is_change) (defBody s_is_change) (defScope s_is_change) .none kV2 dc2 pm2 an2 cd2 ct2), sl2⟩) (c2 : PySem.W.codeIn K cd2 "is_change" = true) (k2 : PySem.W.keepIn K (.ref f2) = true)
    {f3 : Addr} {od3 an3 : Option Addr} {sl3 : Array (Option Value)} {oc3 kV3 dc3 pm3 cd3 ct3 : Value}
    (a3 : PySem.W.nsIn K mainGlobals "is_entries" = some (some (.ref f3))) (l3 : K.lookup f3 = some ⟨oc3, od3, .func (PySem.W.fnOf "is_entries" "is_entries" (defArgs s_is_entries) (defBody s_is_entries) (defScope s_is_entries) .none kV3 dc3 pm3 an3 cd3 ct3), sl3⟩) (c3 : PySem.W.codeIn K cd3 "is_entries" = true) (k3 : PySem.W.keepIn K (.ref f3) = true)
    {f4 : Addr} {od4 an4 : Option Addr} {sl4 : Array (Option Value)} {oc4 kV4 dc4 pm4 cd4 ct4 : Value}
    (a4 : PySem.W.nsIn K mainGlobals "is_number" = some (some (.ref f4))) (l4 : K.lookup f4 = some ⟨oc4, od4, .func (PySem.W.fnOf "is_number" "is_number" (defArgs s_is_number) (defBody s_is_number) (defScope s_is_number) .none kV4 dc4 pm4 an4 cd4 ct4), sl4⟩) (c4 : PySem.W.codeIn K cd4 "is_number" = true) (k4 : PySem.W.keepIn K (.ref f4) = true)
    {f5 : Addr} {od5 an5 : Option Addr} {sl5 : Array (Option Value)} {oc5 kV5 dc5 pm5 cd5 ct5 : Value}
    (a5 : PySem.W.nsIn K mainGlobals "is_note" = some (some (.ref f5))) (l5 : K.lookup f5 = some ⟨oc5, od5, .func (PySem.W.fnOf "is_note" "is_note" (defArgs s_is_note) (defBody s_is_note) (defScope s_is_note) .none kV5 dc5 pm5 an5 cd5 ct5), sl5⟩) (c5 : PySem.W.codeIn K cd5 "is_note" = true) (k5 : PySem.W.keepIn K (.ref f5) = true)
    {f6 : Addr} {od6 an6 : Option Addr} {sl6 : Array (Option Value)} {oc6 kV6 dc6 pm6 cd6 ct6 : Value}
    (a6 : PySem.W.nsIn K mainGlobals "is_bound" = some (some (.ref f6))) (l6 : K.lookup f6 = some ⟨oc6, od6, .func (PySem.W.fnOf "is_bound" "is_bound" (defArgs s_is_bound) (defBody s_is_bound) (defScope s_is_bound) .none kV6 dc6 pm6 an6 cd6 ct6), sl6⟩) (c6 : PySem.W.codeIn K cd6 "is_bound" = true) (k6 : PySem.W.keepIn K (.ref f6) = true)
    {f7 : Addr} {od7 an7 : Option Addr} {sl7 : Array (Option Value)} {oc7 kV7 dc7 pm7 cd7 ct7 : Value}
    (a7 : PySem.W.nsIn K mainGlobals "is_history" = some (some (.ref f7))) (l7 : K.lookup f7 = some ⟨oc7, od7, .func (PySem.W.fnOf "is_history" "is_history" (defArgs s_is_history) (defBody s_is_history) (defScope s_is_history) .none kV7 dc7 pm7 an7 cd7 ct7), sl7⟩) (c7 : PySem.W.codeIn K cd7 "is_history" = true) (k7 : PySem.W.keepIn K (.ref f7) = true)
    {f8 : Addr} {od8 an8 : Option Addr} {sl8 : Array (Option Value)} {oc8 kV8 dc8 pm8 cd8 ct8 : Value}
    (a8 : PySem.W.nsIn K mainGlobals "is_commit" = some (some (.ref f8))) (l8 : K.lookup f8 = some ⟨oc8, od8, .func (PySem.W.fnOf "is_commit" "is_commit" (defArgs s_is_commit) (defBody s_is_commit) (defScope s_is_commit) .none kV8 dc8 pm8 an8 cd8 ct8), sl8⟩) (c8 : PySem.W.codeIn K cd8 "is_commit" = true) (k8 : PySem.W.keepIn K (.ref f8) = true)
    {f9 : Addr} {od9 an9 : Option Addr} {sl9 : Array (Option Value)} {oc9 kV9 dc9 pm9 cd9 ct9 : Value}
    (a9 : PySem.W.nsIn K mainGlobals "_law_well" = some (some (.ref f9))) (l9 : K.lookup f9 = some ⟨oc9, od9, .func (PySem.W.fnOf "_law_well" "_law_well" (defArgs s__law_well) (defBody s__law_well) (defScope s__law_well) .none kV9 dc9 pm9 an9 cd9 ct9), sl9⟩) (c9 : PySem.W.codeIn K cd9 "_law_well" = true) (k9 : PySem.W.keepIn K (.ref f9) = true)
    {f10 : Addr} {od10 an10 : Option Addr} {sl10 : Array (Option Value)} {oc10 kV10 dc10 pm10 cd10 ct10 : Value}
    (a10 : PySem.W.nsIn K mainGlobals "_law_dip" = some (some (.ref f10))) (l10 : K.lookup f10 = some ⟨oc10, od10, .func (PySem.W.fnOf "_law_dip" "_law_dip" (defArgs s__law_dip) (defBody s__law_dip) (defScope s__law_dip) .none kV10 dc10 pm10 an10 cd10 ct10), sl10⟩) (c10 : PySem.W.codeIn K cd10 "_law_dip" = true) (k10 : PySem.W.keepIn K (.ref f10) = true)
    {f11 : Addr} {od11 an11 : Option Addr} {sl11 : Array (Option Value)} {oc11 kV11 dc11 pm11 cd11 ct11 : Value}
    (a11 : PySem.W.nsIn K mainGlobals "_law_same" = some (some (.ref f11))) (l11 : K.lookup f11 = some ⟨oc11, od11, .func (PySem.W.fnOf "_law_same" "_law_same" (defArgs s__law_same) (defBody s__law_same) (defScope s__law_same) .none kV11 dc11 pm11 an11 cd11 ct11), sl11⟩) (c11 : PySem.W.codeIn K cd11 "_law_same" = true) (k11 : PySem.W.keepIn K (.ref f11) = true)
    {f12 : Addr} {od12 an12 : Option Addr} {sl12 : Array (Option Value)} {oc12 kV12 dc12 pm12 cd12 ct12 : Value}
    (a12 : PySem.W.nsIn K mainGlobals "_law_word" = some (some (.ref f12))) (l12 : K.lookup f12 = some ⟨oc12, od12, .func (PySem.W.fnOf "_law_word" "_law_word" (defArgs s__law_word) (defBody s__law_word) (defScope s__law_word) .none kV12 dc12 pm12 an12 cd12 ct12), sl12⟩) (c12 : PySem.W.codeIn K cd12 "_law_word" = true) (k12 : PySem.W.keepIn K (.ref f12) = true)
    {f13 : Addr} {od13 an13 : Option Addr} {sl13 : Array (Option Value)} {oc13 kV13 dc13 pm13 cd13 ct13 : Value}
    (a13 : PySem.W.nsIn K mainGlobals "_law_pool" = some (some (.ref f13))) (l13 : K.lookup f13 = some ⟨oc13, od13, .func (PySem.W.fnOf "_law_pool" "_law_pool" (defArgs s__law_pool) (defBody s__law_pool) (defScope s__law_pool) .none kV13 dc13 pm13 an13 cd13 ct13), sl13⟩) (c13 : PySem.W.codeIn K cd13 "_law_pool" = true) (k13 : PySem.W.keepIn K (.ref f13) = true)
    {f14 : Addr} {od14 an14 : Option Addr} {sl14 : Array (Option Value)} {oc14 kV14 dc14 pm14 cd14 ct14 : Value}
    (a14 : PySem.W.nsIn K mainGlobals "_law_has" = some (some (.ref f14))) (l14 : K.lookup f14 = some ⟨oc14, od14, .func (PySem.W.fnOf "_law_has" "_law_has" (defArgs s__law_has) (defBody s__law_has) (defScope s__law_has) .none kV14 dc14 pm14 an14 cd14 ct14), sl14⟩) (c14 : PySem.W.codeIn K cd14 "_law_has" = true) (k14 : PySem.W.keepIn K (.ref f14) = true)
    {f15 : Addr} {od15 an15 : Option Addr} {sl15 : Array (Option Value)} {oc15 kV15 dc15 pm15 cd15 ct15 : Value}
    (a15 : PySem.W.nsIn K mainGlobals "_law_given" = some (some (.ref f15))) (l15 : K.lookup f15 = some ⟨oc15, od15, .func (PySem.W.fnOf "_law_given" "_law_given" (defArgs s__law_given) (defBody s__law_given) (defScope s__law_given) .none kV15 dc15 pm15 an15 cd15 ct15), sl15⟩) (c15 : PySem.W.codeIn K cd15 "_law_given" = true) (k15 : PySem.W.keepIn K (.ref f15) = true)
    {f16 : Addr} {od16 an16 : Option Addr} {sl16 : Array (Option Value)} {oc16 kV16 dc16 pm16 cd16 ct16 : Value}
    (a16 : PySem.W.nsIn K mainGlobals "_law_note" = some (some (.ref f16))) (l16 : K.lookup f16 = some ⟨oc16, od16, .func (PySem.W.fnOf "_law_note" "_law_note" (defArgs s__law_note) (defBody s__law_note) (defScope s__law_note) .none kV16 dc16 pm16 an16 cd16 ct16), sl16⟩) (c16 : PySem.W.codeIn K cd16 "_law_note" = true) (k16 : PySem.W.keepIn K (.ref f16) = true)
    {f17 : Addr} {od17 an17 : Option Addr} {sl17 : Array (Option Value)} {oc17 kV17 dc17 pm17 cd17 ct17 : Value}
    (a17 : PySem.W.nsIn K mainGlobals "_law_laid" = some (some (.ref f17))) (l17 : K.lookup f17 = some ⟨oc17, od17, .func (PySem.W.fnOf "_law_laid" "_law_laid" (defArgs s__law_laid) (defBody s__law_laid) (defScope s__law_laid) .none kV17 dc17 pm17 an17 cd17 ct17), sl17⟩) (c17 : PySem.W.codeIn K cd17 "_law_laid" = true) (k17 : PySem.W.keepIn K (.ref f17) = true)
    {f18 : Addr} {od18 an18 : Option Addr} {sl18 : Array (Option Value)} {oc18 kV18 dc18 pm18 cd18 ct18 : Value}
    (a18 : PySem.W.nsIn K mainGlobals "_law_changes" = some (some (.ref f18))) (l18 : K.lookup f18 = some ⟨oc18, od18, .func (PySem.W.fnOf "_law_changes" "_law_changes" (defArgs s__law_changes) (defBody s__law_changes) (defScope s__law_changes) .none kV18 dc18 pm18 an18 cd18 ct18), sl18⟩) (c18 : PySem.W.codeIn K cd18 "_law_changes" = true) (k18 : PySem.W.keepIn K (.ref f18) = true)
    {f19 : Addr} {od19 an19 : Option Addr} {sl19 : Array (Option Value)} {oc19 kV19 dc19 pm19 cd19 ct19 : Value}
    (a19 : PySem.W.nsIn K mainGlobals "_law_barred" = some (some (.ref f19))) (l19 : K.lookup f19 = some ⟨oc19, od19, .func (PySem.W.fnOf "_law_barred" "_law_barred" (defArgs s__law_barred) (defBody s__law_barred) (defScope s__law_barred) .none kV19 dc19 pm19 an19 cd19 ct19), sl19⟩) (c19 : PySem.W.codeIn K cd19 "_law_barred" = true) (k19 : PySem.W.keepIn K (.ref f19) = true)
    {f20 : Addr} {od20 an20 : Option Addr} {sl20 : Array (Option Value)} {oc20 kV20 dc20 pm20 cd20 ct20 : Value}
    (a20 : PySem.W.nsIn K mainGlobals "_law_history" = some (some (.ref f20))) (l20 : K.lookup f20 = some ⟨oc20, od20, .func (PySem.W.fnOf "_law_history" "_law_history" (defArgs s__law_history) (defBody s__law_history) (defScope s__law_history) .none kV20 dc20 pm20 an20 cd20 ct20), sl20⟩) (c20 : PySem.W.codeIn K cd20 "_law_history" = true) (k20 : PySem.W.keepIn K (.ref f20) = true)
    {f21 : Addr} {od21 an21 : Option Addr} {sl21 : Array (Option Value)} {oc21 kV21 dc21 pm21 cd21 ct21 : Value}
    (a21 : PySem.W.nsIn K mainGlobals "_law_is_text" = some (some (.ref f21))) (l21 : K.lookup f21 = some ⟨oc21, od21, .func (PySem.W.fnOf "_law_is_text" "_law_is_text" (defArgs s__law_is_text) (defBody s__law_is_text) (defScope s__law_is_text) .none kV21 dc21 pm21 an21 cd21 ct21), sl21⟩) (c21 : PySem.W.codeIn K cd21 "_law_is_text" = true) (k21 : PySem.W.keepIn K (.ref f21) = true)
    {f22 : Addr} {od22 an22 : Option Addr} {sl22 : Array (Option Value)} {oc22 kV22 dc22 pm22 cd22 ct22 : Value}
    (a22 : PySem.W.nsIn K mainGlobals "_law_is_row" = some (some (.ref f22))) (l22 : K.lookup f22 = some ⟨oc22, od22, .func (PySem.W.fnOf "_law_is_row" "_law_is_row" (defArgs s__law_is_row) (defBody s__law_is_row) (defScope s__law_is_row) .none kV22 dc22 pm22 an22 cd22 ct22), sl22⟩) (c22 : PySem.W.codeIn K cd22 "_law_is_row" = true) (k22 : PySem.W.keepIn K (.ref f22) = true)
    {f23 : Addr} {od23 an23 : Option Addr} {sl23 : Array (Option Value)} {oc23 kV23 dc23 pm23 cd23 ct23 : Value}
    (a23 : PySem.W.nsIn K mainGlobals "_law_are_rows" = some (some (.ref f23))) (l23 : K.lookup f23 = some ⟨oc23, od23, .func (PySem.W.fnOf "_law_are_rows" "_law_are_rows" (defArgs s__law_are_rows) (defBody s__law_are_rows) (defScope s__law_are_rows) .none kV23 dc23 pm23 an23 cd23 ct23), sl23⟩) (c23 : PySem.W.codeIn K cd23 "_law_are_rows" = true) (k23 : PySem.W.keepIn K (.ref f23) = true)
    {f24 : Addr} {od24 an24 : Option Addr} {sl24 : Array (Option Value)} {oc24 kV24 dc24 pm24 cd24 ct24 : Value}
    (a24 : PySem.W.nsIn K mainGlobals "_law_is_note" = some (some (.ref f24))) (l24 : K.lookup f24 = some ⟨oc24, od24, .func (PySem.W.fnOf "_law_is_note" "_law_is_note" (defArgs s__law_is_note) (defBody s__law_is_note) (defScope s__law_is_note) .none kV24 dc24 pm24 an24 cd24 ct24), sl24⟩) (c24 : PySem.W.codeIn K cd24 "_law_is_note" = true) (k24 : PySem.W.keepIn K (.ref f24) = true)
    {f25 : Addr} {od25 an25 : Option Addr} {sl25 : Array (Option Value)} {oc25 kV25 dc25 pm25 cd25 ct25 : Value}
    (a25 : PySem.W.nsIn K mainGlobals "_law_is_commit" = some (some (.ref f25))) (l25 : K.lookup f25 = some ⟨oc25, od25, .func (PySem.W.fnOf "_law_is_commit" "_law_is_commit" (defArgs s__law_is_commit) (defBody s__law_is_commit) (defScope s__law_is_commit) .none kV25 dc25 pm25 an25 cd25 ct25), sl25⟩) (c25 : PySem.W.codeIn K cd25 "_law_is_commit" = true) (k25 : PySem.W.keepIn K (.ref f25) = true)
    {f26 : Addr} {od26 an26 : Option Addr} {sl26 : Array (Option Value)} {oc26 kV26 dc26 pm26 cd26 ct26 : Value}
    (a26 : PySem.W.nsIn K mainGlobals "_law_is_history" = some (some (.ref f26))) (l26 : K.lookup f26 = some ⟨oc26, od26, .func (PySem.W.fnOf "_law_is_history" "_law_is_history" (defArgs s__law_is_history) (defBody s__law_is_history) (defScope s__law_is_history) .none kV26 dc26 pm26 an26 cd26 ct26), sl26⟩) (c26 : PySem.W.codeIn K cd26 "_law_is_history" = true) (k26 : PySem.W.keepIn K (.ref f26) = true)
    {f27 : Addr} {od27 an27 : Option Addr} {sl27 : Array (Option Value)} {oc27 kV27 dc27 pm27 cd27 ct27 : Value}
    (a27 : PySem.W.nsIn K mainGlobals "_law_odd" = some (some (.ref f27))) (l27 : K.lookup f27 = some ⟨oc27, od27, .func (PySem.W.fnOf "_law_odd" "_law_odd" (defArgs s__law_odd) (defBody s__law_odd) (defScope s__law_odd) .none kV27 dc27 pm27 an27 cd27 ct27), sl27⟩) (c27 : PySem.W.codeIn K cd27 "_law_odd" = true) (k27 : PySem.W.keepIn K (.ref f27) = true)
    {f28 : Addr} {od28 an28 : Option Addr} {sl28 : Array (Option Value)} {oc28 kV28 dc28 pm28 cd28 ct28 : Value}
    (a28 : PySem.W.nsIn K mainGlobals "_law_put" = some (some (.ref f28))) (l28 : K.lookup f28 = some ⟨oc28, od28, .func (PySem.W.fnOf "_law_put" "_law_put" (defArgs s__law_put) (defBody s__law_put) (defScope s__law_put) .none kV28 dc28 pm28 an28 cd28 ct28), sl28⟩) (c28 : PySem.W.codeIn K cd28 "_law_put" = true) (k28 : PySem.W.keepIn K (.ref f28) = true)
    {f29 : Addr} {od29 an29 : Option Addr} {sl29 : Array (Option Value)} {oc29 kV29 dc29 pm29 cd29 ct29 : Value}
    (a29 : PySem.W.nsIn K mainGlobals "_law_odd_rows" = some (some (.ref f29))) (l29 : K.lookup f29 = some ⟨oc29, od29, .func (PySem.W.fnOf "_law_odd_rows" "_law_odd_rows" (defArgs s__law_odd_rows) (defBody s__law_odd_rows) (defScope s__law_odd_rows) .none kV29 dc29 pm29 an29 cd29 ct29), sl29⟩) (c29 : PySem.W.codeIn K cd29 "_law_odd_rows" = true) (k29 : PySem.W.keepIn K (.ref f29) = true)
    {f30 : Addr} {od30 an30 : Option Addr} {sl30 : Array (Option Value)} {oc30 kV30 dc30 pm30 cd30 ct30 : Value}
    (a30 : PySem.W.nsIn K mainGlobals "_law_odd_note" = some (some (.ref f30))) (l30 : K.lookup f30 = some ⟨oc30, od30, .func (PySem.W.fnOf "_law_odd_note" "_law_odd_note" (defArgs s__law_odd_note) (defBody s__law_odd_note) (defScope s__law_odd_note) .none kV30 dc30 pm30 an30 cd30 ct30), sl30⟩) (c30 : PySem.W.codeIn K cd30 "_law_odd_note" = true) (k30 : PySem.W.keepIn K (.ref f30) = true)
    {f31 : Addr} {od31 an31 : Option Addr} {sl31 : Array (Option Value)} {oc31 kV31 dc31 pm31 cd31 ct31 : Value}
    (a31 : PySem.W.nsIn K mainGlobals "_law_odd_commit" = some (some (.ref f31))) (l31 : K.lookup f31 = some ⟨oc31, od31, .func (PySem.W.fnOf "_law_odd_commit" "_law_odd_commit" (defArgs s__law_odd_commit) (defBody s__law_odd_commit) (defScope s__law_odd_commit) .none kV31 dc31 pm31 an31 cd31 ct31), sl31⟩) (c31 : PySem.W.codeIn K cd31 "_law_odd_commit" = true) (k31 : PySem.W.keepIn K (.ref f31) = true)
    {f32 : Addr} {od32 an32 : Option Addr} {sl32 : Array (Option Value)} {oc32 kV32 dc32 pm32 cd32 ct32 : Value}
    (a32 : PySem.W.nsIn K mainGlobals "_law_right" = some (some (.ref f32))) (l32 : K.lookup f32 = some ⟨oc32, od32, .func (PySem.W.fnOf "_law_right" "_law_right" (defArgs s__law_right) (defBody s__law_right) (defScope s__law_right) .none kV32 dc32 pm32 an32 cd32 ct32), sl32⟩) (c32 : PySem.W.codeIn K cd32 "_law_right" = true) (k32 : PySem.W.keepIn K (.ref f32) = true)
    {f33 : Addr} {od33 an33 : Option Addr} {sl33 : Array (Option Value)} {oc33 kV33 dc33 pm33 cd33 ct33 : Value}
    (a33 : PySem.W.nsIn K mainGlobals "law" = some (some (.ref f33))) (l33 : K.lookup f33 = some ⟨oc33, od33, .func (PySem.W.fnOf "law" "law" (defArgs s_law) (defBody s_law) (defScope s_law) .none kV33 dc33 pm33 an33 cd33 ct33), sl33⟩) (c33 : PySem.W.codeIn K cd33 "law" = true) (k33 : PySem.W.keepIn K (.ref f33) = true)
    (z0 : PySem.W.nsIn K mainGlobals "all" = some none)
    (z1 : PySem.W.nsIn K mainGlobals "bool" = some none)
    (z2 : PySem.W.nsIn K mainGlobals "dict" = some none)
    (z3 : PySem.W.nsIn K mainGlobals "enumerate" = some none)
    (z4 : PySem.W.nsIn K mainGlobals "int" = some none)
    (z5 : PySem.W.nsIn K mainGlobals "isinstance" = some none)
    (z6 : PySem.W.nsIn K mainGlobals "len" = some none)
    (z7 : PySem.W.nsIn K mainGlobals "list" = some none)
    (z8 : PySem.W.nsIn K mainGlobals "range" = some none)
    (z9 : PySem.W.nsIn K mainGlobals "repr" = some none)
    (z10 : PySem.W.nsIn K mainGlobals "sorted" = some none)
    (z11 : PySem.W.nsIn K mainGlobals "str" = some none)
    (z12 : PySem.W.nsIn K mainGlobals "tuple" = some none)
    (z13 : PySem.W.nsIn K mainGlobals "type" = some none)
    (z14 : PySem.W.nsIn K mainGlobals "zip" = some none) : Fx K mg :=
  {a_is_text := f0, fd_is_text := _, F_is_text := fun_mk (st := s_is_text) l0 c0 k0, g_is_text := PySem.W.mg_of X G a0, b_is_text := (fun_mk (st := s_is_text) l0 c0 k0).binds (ps := ["value"]) fun _ _ _ _ _ _ us hl => match us, hl with | [_], _ => rfl,
    a_is_changes := f1, fd_is_changes := _, F_is_changes := fun_mk (st := s_is_changes) l1 c1 k1, g_is_changes := PySem.W.mg_of X G a1, b_is_changes := (fun_mk (st := s_is_changes) l1 c1 k1).binds (ps := ["value"]) fun _ _ _ _ _ _ us hl => match us, hl with | [_], _ => rfl,
    a_is_change := f2, fd_is_change := _, F_is_change := fun_mk (st := s_is_change) l2 c2 k2, g_is_change := PySem.W.mg_of X G a2, b_is_change := (fun_mk (st := s_is_change) l2 c2 k2).binds (ps := ["value"]) fun _ _ _ _ _ _ us hl => match us, hl with | [_], _ => rfl,
    a_is_entries := f3, fd_is_entries := _, F_is_entries := fun_mk (st := s_is_entries) l3 c3 k3, g_is_entries := PySem.W.mg_of X G a3, b_is_entries := (fun_mk (st := s_is_entries) l3 c3 k3).binds (ps := ["value"]) fun _ _ _ _ _ _ us hl => match us, hl with | [_], _ => rfl,
    a_is_number := f4, fd_is_number := _, F_is_number := fun_mk (st := s_is_number) l4 c4 k4, g_is_number := PySem.W.mg_of X G a4, b_is_number := (fun_mk (st := s_is_number) l4 c4 k4).binds (ps := ["value", "low", "high"]) fun _ _ _ _ _ _ us hl => match us, hl with | [_, _, _], _ => rfl,
    a_is_note := f5, fd_is_note := _, F_is_note := fun_mk (st := s_is_note) l5 c5 k5, g_is_note := PySem.W.mg_of X G a5, b_is_note := (fun_mk (st := s_is_note) l5 c5 k5).binds (ps := ["value"]) fun _ _ _ _ _ _ us hl => match us, hl with | [_], _ => rfl,
    a_is_bound := f6, fd_is_bound := _, F_is_bound := fun_mk (st := s_is_bound) l6 c6 k6, g_is_bound := PySem.W.mg_of X G a6, b_is_bound := (fun_mk (st := s_is_bound) l6 c6 k6).binds (ps := ["value"]) fun _ _ _ _ _ _ us hl => match us, hl with | [_], _ => rfl,
    a_is_history := f7, fd_is_history := _, F_is_history := fun_mk (st := s_is_history) l7 c7 k7, g_is_history := PySem.W.mg_of X G a7, b_is_history := (fun_mk (st := s_is_history) l7 c7 k7).binds (ps := ["value"]) fun _ _ _ _ _ _ us hl => match us, hl with | [_], _ => rfl,
    a_is_commit := f8, fd_is_commit := _, F_is_commit := fun_mk (st := s_is_commit) l8 c8 k8, g_is_commit := PySem.W.mg_of X G a8, b_is_commit := (fun_mk (st := s_is_commit) l8 c8 k8).binds (ps := ["number", "value"]) fun _ _ _ _ _ _ us hl => match us, hl with | [_, _], _ => rfl,
    a__law_well := f9, fd__law_well := _, F__law_well := fun_mk (st := s__law_well) l9 c9 k9, g__law_well := PySem.W.mg_of X G a9, b__law_well := (fun_mk (st := s__law_well) l9 c9 k9).binds (ps := ["_law_cell"]) fun _ _ _ _ _ _ us hl => match us, hl with | [_], _ => rfl,
    a__law_dip := f10, fd__law_dip := _, F__law_dip := fun_mk (st := s__law_dip) l10 c10 k10, g__law_dip := PySem.W.mg_of X G a10, b__law_dip := (fun_mk (st := s__law_dip) l10 c10 k10).binds (ps := ["_law_well_here", "_law_many"]) fun _ _ _ _ _ _ us hl => match us, hl with | [_, _], _ => rfl,
    a__law_same := f11, fd__law_same := _, F__law_same := fun_mk (st := s__law_same) l11 c11 k11, g__law_same := PySem.W.mg_of X G a11, b__law_same := (fun_mk (st := s__law_same) l11 c11 k11).binds (ps := ["_law_found", "_law_due"]) fun _ _ _ _ _ _ us hl => match us, hl with | [_, _], _ => rfl,
    a__law_word := f12, fd__law_word := _, F__law_word := fun_mk (st := s__law_word) l12 c12 k12, g__law_word := PySem.W.mg_of X G a12, b__law_word := (fun_mk (st := s__law_word) l12 c12 k12).binds (ps := ["_law_well_here", "_law_most"]) fun _ _ _ _ _ _ us hl => match us, hl with | [_, _], _ => rfl,
    a__law_pool := f13, fd__law_pool := _, F__law_pool := fun_mk (st := s__law_pool) l13 c13 k13, g__law_pool := PySem.W.mg_of X G a13, b__law_pool := (fun_mk (st := s__law_pool) l13 c13 k13).binds (ps := ["_law_well_here", "_law_many"]) fun _ _ _ _ _ _ us hl => match us, hl with | [_, _], _ => rfl,
    a__law_has := f14, fd__law_has := _, F__law_has := fun_mk (st := s__law_has) l14 c14 k14, g__law_has := PySem.W.mg_of X G a14, b__law_has := (fun_mk (st := s__law_has) l14 c14 k14).binds (ps := ["_law_note_here", "_law_key"]) fun _ _ _ _ _ _ us hl => match us, hl with | [_, _], _ => rfl,
    a__law_given := f15, fd__law_given := _, F__law_given := fun_mk (st := s__law_given) l15 c15 k15, g__law_given := PySem.W.mg_of X G a15, b__law_given := (fun_mk (st := s__law_given) l15 c15 k15).binds (ps := ["_law_rows", "_law_note_here"]) fun _ _ _ _ _ _ us hl => match us, hl with | [_, _], _ => rfl,
    a__law_note := f16, fd__law_note := _, F__law_note := fun_mk (st := s__law_note) l16 c16 k16, g__law_note := PySem.W.mg_of X G a16, b__law_note := (fun_mk (st := s__law_note) l16 c16 k16).binds (ps := ["_law_well_here", "_law_pool_here", "_law_rows"]) fun _ _ _ _ _ _ us hl => match us, hl with | [_, _, _], _ => rfl,
    a__law_laid := f17, fd__law_laid := _, F__law_laid := fun_mk (st := s__law_laid) l17 c17 k17, g__law_laid := PySem.W.mg_of X G a17, b__law_laid := (fun_mk (st := s__law_laid) l17 c17 k17).binds (ps := ["_law_rows", "_law_changes_here"]) fun _ _ _ _ _ _ us hl => match us, hl with | [_, _], _ => rfl,
    a__law_changes := f18, fd__law_changes := _, F__law_changes := fun_mk (st := s__law_changes) l18 c18 k18, g__law_changes := PySem.W.mg_of X G a18, b__law_changes := (fun_mk (st := s__law_changes) l18 c18 k18).binds (ps := ["_law_well_here", "_law_keys", "_law_most"]) fun _ _ _ _ _ _ us hl => match us, hl with | [_, _, _], _ => rfl,
    a__law_barred := f19, fd__law_barred := _, F__law_barred := fun_mk (st := s__law_barred) l19 c19 k19, g__law_barred := PySem.W.mg_of X G a19, b__law_barred := (fun_mk (st := s__law_barred) l19 c19 k19).binds (ps := ["_law_commits"]) fun _ _ _ _ _ _ us hl => match us, hl with | [_], _ => rfl,
    a__law_history := f20, fd__law_history := _, F__law_history := fun_mk (st := s__law_history) l20 c20 k20, g__law_history := PySem.W.mg_of X G a20, b__law_history := (fun_mk (st := s__law_history) l20 c20 k20).binds (ps := ["_law_well_here", "_law_pool_here", "_law_rows", "_law_many", "_law_most"]) fun _ _ _ _ _ _ us hl => match us, hl with | [_, _, _, _, _], _ => rfl,
    a__law_is_text := f21, fd__law_is_text := _, F__law_is_text := fun_mk (st := s__law_is_text) l21 c21 k21, g__law_is_text := PySem.W.mg_of X G a21, b__law_is_text := (fun_mk (st := s__law_is_text) l21 c21 k21).binds (ps := ["_law_value"]) fun _ _ _ _ _ _ us hl => match us, hl with | [_], _ => rfl,
    a__law_is_row := f22, fd__law_is_row := _, F__law_is_row := fun_mk (st := s__law_is_row) l22 c22 k22, g__law_is_row := PySem.W.mg_of X G a22, b__law_is_row := (fun_mk (st := s__law_is_row) l22 c22 k22).binds (ps := ["_law_row", "_law_may_go"]) fun _ _ _ _ _ _ us hl => match us, hl with | [_, _], _ => rfl,
    a__law_are_rows := f23, fd__law_are_rows := _, F__law_are_rows := fun_mk (st := s__law_are_rows) l23 c23 k23, g__law_are_rows := PySem.W.mg_of X G a23, b__law_are_rows := (fun_mk (st := s__law_are_rows) l23 c23 k23).binds (ps := ["_law_value", "_law_may_go"]) fun _ _ _ _ _ _ us hl => match us, hl with | [_, _], _ => rfl,
    a__law_is_note := f24, fd__law_is_note := _, F__law_is_note := fun_mk (st := s__law_is_note) l24 c24 k24, g__law_is_note := PySem.W.mg_of X G a24, b__law_is_note := (fun_mk (st := s__law_is_note) l24 c24 k24).binds (ps := ["_law_value"]) fun _ _ _ _ _ _ us hl => match us, hl with | [_], _ => rfl,
    a__law_is_commit := f25, fd__law_is_commit := _, F__law_is_commit := fun_mk (st := s__law_is_commit) l25 c25 k25, g__law_is_commit := PySem.W.mg_of X G a25, b__law_is_commit := (fun_mk (st := s__law_is_commit) l25 c25 k25).binds (ps := ["_law_value", "_law_number"]) fun _ _ _ _ _ _ us hl => match us, hl with | [_, _], _ => rfl,
    a__law_is_history := f26, fd__law_is_history := _, F__law_is_history := fun_mk (st := s__law_is_history) l26 c26 k26, g__law_is_history := PySem.W.mg_of X G a26, b__law_is_history := (fun_mk (st := s__law_is_history) l26 c26 k26).binds (ps := ["_law_value"]) fun _ _ _ _ _ _ us hl => match us, hl with | [_], _ => rfl,
    a__law_odd := f27, fd__law_odd := _, F__law_odd := fun_mk (st := s__law_odd) l27 c27 k27, g__law_odd := PySem.W.mg_of X G a27, b__law_odd := (fun_mk (st := s__law_odd) l27 c27 k27).binds (ps := ["_law_well_here"]) fun _ _ _ _ _ _ us hl => match us, hl with | [_], _ => rfl,
    a__law_put := f28, fd__law_put := _, F__law_put := fun_mk (st := s__law_put) l28 c28 k28, g__law_put := PySem.W.mg_of X G a28, b__law_put := (fun_mk (st := s__law_put) l28 c28 k28).binds (ps := ["_law_value", "_law_at", "_law_part"]) fun _ _ _ _ _ _ us hl => match us, hl with | [_, _, _], _ => rfl,
    a__law_odd_rows := f29, fd__law_odd_rows := _, F__law_odd_rows := fun_mk (st := s__law_odd_rows) l29 c29 k29, g__law_odd_rows := PySem.W.mg_of X G a29, b__law_odd_rows := (fun_mk (st := s__law_odd_rows) l29 c29 k29).binds (ps := ["_law_well_here", "_law_rows"]) fun _ _ _ _ _ _ us hl => match us, hl with | [_, _], _ => rfl,
    a__law_odd_note := f30, fd__law_odd_note := _, F__law_odd_note := fun_mk (st := s__law_odd_note) l30 c30 k30, g__law_odd_note := PySem.W.mg_of X G a30, b__law_odd_note := (fun_mk (st := s__law_odd_note) l30 c30 k30).binds (ps := ["_law_well_here", "_law_note_here"]) fun _ _ _ _ _ _ us hl => match us, hl with | [_, _], _ => rfl,
    a__law_odd_commit := f31, fd__law_odd_commit := _, F__law_odd_commit := fun_mk (st := s__law_odd_commit) l31 c31 k31, g__law_odd_commit := PySem.W.mg_of X G a31, b__law_odd_commit := (fun_mk (st := s__law_odd_commit) l31 c31 k31).binds (ps := ["_law_well_here", "_law_commit", "_law_number"]) fun _ _ _ _ _ _ us hl => match us, hl with | [_, _, _], _ => rfl,
    a__law_right := f32, fd__law_right := _, F__law_right := fun_mk (st := s__law_right) l32 c32 k32, g__law_right := PySem.W.mg_of X G a32, b__law_right := (fun_mk (st := s__law_right) l32 c32 k32).binds (ps := ["_law_value"]) fun _ _ _ _ _ _ us hl => match us, hl with | [_], _ => rfl,
    a_law := f33, fd_law := _, F_law := fun_mk (st := s_law) l33 c33 k33, g_law := PySem.W.mg_of X G a33, b_law := (fun_mk (st := s_law) l33 c33 k33).binds (ps := ["_law_script"]) fun _ _ _ _ _ _ us hl => match us, hl with | [_], _ => rfl,
    kb_is_note_0 := kbm_kb_is_note_0 (fun_mk (st := s_is_note) l5 c5 k5),
    kb_is_history_0 := kbm_kb_is_history_0 (fun_mk (st := s_is_history) l7 c7 k7),
    m_all := PySem.W.mg_none_of X G z0,
    m_bool := PySem.W.mg_none_of X G z1,
    m_dict := PySem.W.mg_none_of X G z2,
    m_enumerate := PySem.W.mg_none_of X G z3,
    m_int := PySem.W.mg_none_of X G z4,
    m_isinstance := PySem.W.mg_none_of X G z5,
    m_len := PySem.W.mg_none_of X G z6,
    m_list := PySem.W.mg_none_of X G z7,
    m_range := PySem.W.mg_none_of X G z8,
    m_repr := PySem.W.mg_none_of X G z9,
    m_sorted := PySem.W.mg_none_of X G z10,
    m_str := PySem.W.mg_none_of X G z11,
    m_tuple := PySem.W.mg_none_of X G z12,
    m_type := PySem.W.mg_none_of X G z13,
    m_zip := PySem.W.mg_none_of X G z14 }
theorem all_mk {l : PySem.W.OpenLaw} {w : World} {K : PySem.W.Frag} {h : Heap} {mg : Str → Option Value} {fa : Addr} (X : K.In h) (G : h.Ns mainGlobals mg) (hfa : mg "law" = some (.ref fa))
    {f0 : Addr} {od0 an0 : Option Addr} {sl0 : Array (Option Value)} {oc0 kV0 dc0 pm0 cd0 ct0 : Value}
    (a0 : PySem.W.nsIn K mainGlobals "is_text" = some (some (.ref f0))) (l0 : K.lookup f0 = some ⟨oc0, od0, .func (PySem.W.fnOf "is_text" "is_text" (defArgs s_is_text) (defBody s_is_text) (defScope s_is_text) .none kV0 dc0 pm0 an0 cd0 ct0), sl0⟩) (c0 : PySem.W.codeIn K cd0 "is_text" = true) (k0 : PySem.W.keepIn K (.ref f0) = true)
    {f1 : Addr} {od1 an1 : Option Addr} {sl1 : Array (Option Value)} {oc1 kV1 dc1 pm1 cd1 ct1 : Value}
    (a1 : PySem.W.nsIn K mainGlobals "is_changes" = some (some (.ref f1))) (l1 : K.lookup f1 = some ⟨oc1, od1, .func (PySem.W.fnOf "is_changes" "is_changes" (defArgs s_is_changes) (defBody s_is_changes) (defScope s_is_changes) .none kV1 dc1 pm1 an1 cd1 ct1), sl1⟩) (c1 : PySem.W.codeIn K cd1 "is_changes" = true) (k1 : PySem.W.keepIn K (.ref f1) = true)
    {f2 : Addr} {od2 an2 : Option Addr} {sl2 : Array (Option Value)} {oc2 kV2 dc2 pm2 cd2 ct2 : Value}
    (a2 : PySem.W.nsIn K mainGlobals "is_change" = some (some (.ref f2))) (l2 : K.lookup f2 = some ⟨oc2, od2, .func (PySem.W.fnOf "is_change" "is_change" (defArgs s_is_change) (defBody s_is_change) (defScope s_is_change) .none kV2 dc2 pm2 an2 cd2 ct2), sl2⟩) (c2 : PySem.W.codeIn K cd2 "is_change" = true) (k2 : PySem.W.keepIn K (.ref f2) = true)
    {f3 : Addr} {od3 an3 : Option Addr} {sl3 : Array (Option Value)} {oc3 kV3 dc3 pm3 cd3 ct3 : Value}
    (a3 : PySem.W.nsIn K mainGlobals "is_entries" = some (some (.ref f3))) (l3 : K.lookup f3 = some ⟨oc3, od3, .func (PySem.W.fnOf "is_entries" "is_entries" (defArgs s_is_entries) (defBody s_is_entries) (defScope s_is_entries) .none kV3 dc3 pm3 an3 cd3 ct3), sl3⟩) (c3 : PySem.W.codeIn K cd3 "is_entries" = true) (k3 : PySem.W.keepIn K (.ref f3) = true)
    {f4 : Addr} {od4 an4 : Option Addr} {sl4 : Array (Option Value)} {oc4 kV4 dc4 pm4 cd4 ct4 : Value}
    (a4 : PySem.W.nsIn K mainGlobals "is_number" = some (some (.ref f4))) (l4 : K.lookup f4 = some ⟨oc4, od4, .func (PySem.W.fnOf "is_number" "is_number" (defArgs s_is_number) (defBody s_is_number) (defScope s_is_number) .none kV4 dc4 pm4 an4 cd4 ct4), sl4⟩) (c4 : PySem.W.codeIn K cd4 "is_number" = true) (k4 : PySem.W.keepIn K (.ref f4) = true)
    {f5 : Addr} {od5 an5 : Option Addr} {sl5 : Array (Option Value)} {oc5 kV5 dc5 pm5 cd5 ct5 : Value}
    (a5 : PySem.W.nsIn K mainGlobals "is_note" = some (some (.ref f5))) (l5 : K.lookup f5 = some ⟨oc5, od5, .func (PySem.W.fnOf "is_note" "is_note" (defArgs s_is_note) (defBody s_is_note) (defScope s_is_note) .none kV5 dc5 pm5 an5 cd5 ct5), sl5⟩) (c5 : PySem.W.codeIn K cd5 "is_note" = true) (k5 : PySem.W.keepIn K (.ref f5) = true)
    {f6 : Addr} {od6 an6 : Option Addr} {sl6 : Array (Option Value)} {oc6 kV6 dc6 pm6 cd6 ct6 : Value}
    (a6 : PySem.W.nsIn K mainGlobals "is_bound" = some (some (.ref f6))) (l6 : K.lookup f6 = some ⟨oc6, od6, .func (PySem.W.fnOf "is_bound" "is_bound" (defArgs s_is_bound) (defBody s_is_bound) (defScope s_is_bound) .none kV6 dc6 pm6 an6 cd6 ct6), sl6⟩) (c6 : PySem.W.codeIn K cd6 "is_bound" = true) (k6 : PySem.W.keepIn K (.ref f6) = true)
    {f7 : Addr} {od7 an7 : Option Addr} {sl7 : Array (Option Value)} {oc7 kV7 dc7 pm7 cd7 ct7 : Value}
    (a7 : PySem.W.nsIn K mainGlobals "is_history" = some (some (.ref f7))) (l7 : K.lookup f7 = some ⟨oc7, od7, .func (PySem.W.fnOf "is_history" "is_history" (defArgs s_is_history) (defBody s_is_history) (defScope s_is_history) .none kV7 dc7 pm7 an7 cd7 ct7), sl7⟩) (c7 : PySem.W.codeIn K cd7 "is_history" = true) (k7 : PySem.W.keepIn K (.ref f7) = true)
    {f8 : Addr} {od8 an8 : Option Addr} {sl8 : Array (Option Value)} {oc8 kV8 dc8 pm8 cd8 ct8 : Value}
    (a8 : PySem.W.nsIn K mainGlobals "is_commit" = some (some (.ref f8))) (l8 : K.lookup f8 = some ⟨oc8, od8, .func (PySem.W.fnOf "is_commit" "is_commit" (defArgs s_is_commit) (defBody s_is_commit) (defScope s_is_commit) .none kV8 dc8 pm8 an8 cd8 ct8), sl8⟩) (c8 : PySem.W.codeIn K cd8 "is_commit" = true) (k8 : PySem.W.keepIn K (.ref f8) = true)
    {f9 : Addr} {od9 an9 : Option Addr} {sl9 : Array (Option Value)} {oc9 kV9 dc9 pm9 cd9 ct9 : Value}
    (a9 : PySem.W.nsIn K mainGlobals "_law_well" = some (some (.ref f9))) (l9 : K.lookup f9 = some ⟨oc9, od9, .func (PySem.W.fnOf "_law_well" "_law_well" (defArgs s__law_well) (defBody s__law_well) (defScope s__law_well) .none kV9 dc9 pm9 an9 cd9 ct9), sl9⟩) (c9 : PySem.W.codeIn K cd9 "_law_well" = true) (k9 : PySem.W.keepIn K (.ref f9) = true)
    {f10 : Addr} {od10 an10 : Option Addr} {sl10 : Array (Option Value)} {oc10 kV10 dc10 pm10 cd10 ct10 : Value}
    (a10 : PySem.W.nsIn K mainGlobals "_law_dip" = some (some (.ref f10))) (l10 : K.lookup f10 = some ⟨oc10, od10, .func (PySem.W.fnOf "_law_dip" "_law_dip" (defArgs s__law_dip) (defBody s__law_dip) (defScope s__law_dip) .none kV10 dc10 pm10 an10 cd10 ct10), sl10⟩) (c10 : PySem.W.codeIn K cd10 "_law_dip" = true) (k10 : PySem.W.keepIn K (.ref f10) = true)
    {f11 : Addr} {od11 an11 : Option Addr} {sl11 : Array (Option Value)} {oc11 kV11 dc11 pm11 cd11 ct11 : Value}
    (a11 : PySem.W.nsIn K mainGlobals "_law_same" = some (some (.ref f11))) (l11 : K.lookup f11 = some ⟨oc11, od11, .func (PySem.W.fnOf "_law_same" "_law_same" (defArgs s__law_same) (defBody s__law_same) (defScope s__law_same) .none kV11 dc11 pm11 an11 cd11 ct11), sl11⟩) (c11 : PySem.W.codeIn K cd11 "_law_same" = true) (k11 : PySem.W.keepIn K (.ref f11) = true)
    {f12 : Addr} {od12 an12 : Option Addr} {sl12 : Array (Option Value)} {oc12 kV12 dc12 pm12 cd12 ct12 : Value}
    (a12 : PySem.W.nsIn K mainGlobals "_law_word" = some (some (.ref f12))) (l12 : K.lookup f12 = some ⟨oc12, od12, .func (PySem.W.fnOf "_law_word" "_law_word" (defArgs s__law_word) (defBody s__law_word) (defScope s__law_word) .none kV12 dc12 pm12 an12 cd12 ct12), sl12⟩) (c12 : PySem.W.codeIn K cd12 "_law_word" = true) (k12 : PySem.W.keepIn K (.ref f12) = true)
    {f13 : Addr} {od13 an13 : Option Addr} {sl13 : Array (Option Value)} {oc13 kV13 dc13 pm13 cd13 ct13 : Value}
    (a13 : PySem.W.nsIn K mainGlobals "_law_pool" = some (some (.ref f13))) (l13 : K.lookup f13 = some ⟨oc13, od13, .func (PySem.W.fnOf "_law_pool" "_law_pool" (defArgs s__law_pool) (defBody s__law_pool) (defScope s__law_pool) .none kV13 dc13 pm13 an13 cd13 ct13), sl13⟩) (c13 : PySem.W.codeIn K cd13 "_law_pool" = true) (k13 : PySem.W.keepIn K (.ref f13) = true)
    {f14 : Addr} {od14 an14 : Option Addr} {sl14 : Array (Option Value)} {oc14 kV14 dc14 pm14 cd14 ct14 : Value}
    (a14 : PySem.W.nsIn K mainGlobals "_law_has" = some (some (.ref f14))) (l14 : K.lookup f14 = some ⟨oc14, od14, .func (PySem.W.fnOf "_law_has" "_law_has" (defArgs s__law_has) (defBody s__law_has) (defScope s__law_has) .none kV14 dc14 pm14 an14 cd14 ct14), sl14⟩) (c14 : PySem.W.codeIn K cd14 "_law_has" = true) (k14 : PySem.W.keepIn K (.ref f14) = true)
    {f15 : Addr} {od15 an15 : Option Addr} {sl15 : Array (Option Value)} {oc15 kV15 dc15 pm15 cd15 ct15 : Value}
    (a15 : PySem.W.nsIn K mainGlobals "_law_given" = some (some (.ref f15))) (l15 : K.lookup f15 = some ⟨oc15, od15, .func (PySem.W.fnOf "_law_given" "_law_given" (defArgs s__law_given) (defBody s__law_given) (defScope s__law_given) .none kV15 dc15 pm15 an15 cd15 ct15), sl15⟩) (c15 : PySem.W.codeIn K cd15 "_law_given" = true) (k15 : PySem.W.keepIn K (.ref f15) = true)
    {f16 : Addr} {od16 an16 : Option Addr} {sl16 : Array (Option Value)} {oc16 kV16 dc16 pm16 cd16 ct16 : Value}
    (a16 : PySem.W.nsIn K mainGlobals "_law_note" = some (some (.ref f16))) (l16 : K.lookup f16 = some ⟨oc16, od16, .func (PySem.W.fnOf "_law_note" "_law_note" (defArgs s__law_note) (defBody s__law_note) (defScope s__law_note) .none kV16 dc16 pm16 an16 cd16 ct16), sl16⟩) (c16 : PySem.W.codeIn K cd16 "_law_note" = true) (k16 : PySem.W.keepIn K (.ref f16) = true)
    {f17 : Addr} {od17 an17 : Option Addr} {sl17 : Array (Option Value)} {oc17 kV17 dc17 pm17 cd17 ct17 : Value}
    (a17 : PySem.W.nsIn K mainGlobals "_law_laid" = some (some (.ref f17))) (l17 : K.lookup f17 = some ⟨oc17, od17, .func (PySem.W.fnOf "_law_laid" "_law_laid" (defArgs s__law_laid) (defBody s__law_laid) (defScope s__law_laid) .none kV17 dc17 pm17 an17 cd17 ct17), sl17⟩) (c17 : PySem.W.codeIn K cd17 "_law_laid" = true) (k17 : PySem.W.keepIn K (.ref f17) = true)
    {f18 : Addr} {od18 an18 : Option Addr} {sl18 : Array (Option Value)} {oc18 kV18 dc18 pm18 cd18 ct18 : Value}
    (a18 : PySem.W.nsIn K mainGlobals "_law_changes" = some (some (.ref f18))) (l18 : K.lookup f18 = some ⟨oc18, od18, .func (PySem.W.fnOf "_law_changes" "_law_changes" (defArgs s__law_changes) (defBody s__law_changes) (defScope s__law_changes) .none kV18 dc18 pm18 an18 cd18 ct18), sl18⟩) (c18 : PySem.W.codeIn K cd18 "_law_changes" = true) (k18 : PySem.W.keepIn K (.ref f18) = true)
    {f19 : Addr} {od19 an19 : Option Addr} {sl19 : Array (Option Value)} {oc19 kV19 dc19 pm19 cd19 ct19 : Value}
    (a19 : PySem.W.nsIn K mainGlobals "_law_barred" = some (some (.ref f19))) (l19 : K.lookup f19 = some ⟨oc19, od19, .func (PySem.W.fnOf "_law_barred" "_law_barred" (defArgs s__law_barred) (defBody s__law_barred) (defScope s__law_barred) .none kV19 dc19 pm19 an19 cd19 ct19), sl19⟩) (c19 : PySem.W.codeIn K cd19 "_law_barred" = true) (k19 : PySem.W.keepIn K (.ref f19) = true)
    {f20 : Addr} {od20 an20 : Option Addr} {sl20 : Array (Option Value)} {oc20 kV20 dc20 pm20 cd20 ct20 : Value}
    (a20 : PySem.W.nsIn K mainGlobals "_law_history" = some (some (.ref f20))) (l20 : K.lookup f20 = some ⟨oc20, od20, .func (PySem.W.fnOf "_law_history" "_law_history" (defArgs s__law_history) (defBody s__law_history) (defScope s__law_history) .none kV20 dc20 pm20 an20 cd20 ct20), sl20⟩) (c20 : PySem.W.codeIn K cd20 "_law_history" = true) (k20 : PySem.W.keepIn K (.ref f20) = true)
    {f21 : Addr} {od21 an21 : Option Addr} {sl21 : Array (Option Value)} {oc21 kV21 dc21 pm21 cd21 ct21 : Value}
    (a21 : PySem.W.nsIn K mainGlobals "_law_is_text" = some (some (.ref f21))) (l21 : K.lookup f21 = some ⟨oc21, od21, .func (PySem.W.fnOf "_law_is_text" "_law_is_text" (defArgs s__law_is_text) (defBody s__law_is_text) (defScope s__law_is_text) .none kV21 dc21 pm21 an21 cd21 ct21), sl21⟩) (c21 : PySem.W.codeIn K cd21 "_law_is_text" = true) (k21 : PySem.W.keepIn K (.ref f21) = true)
    {f22 : Addr} {od22 an22 : Option Addr} {sl22 : Array (Option Value)} {oc22 kV22 dc22 pm22 cd22 ct22 : Value}
    (a22 : PySem.W.nsIn K mainGlobals "_law_is_row" = some (some (.ref f22))) (l22 : K.lookup f22 = some ⟨oc22, od22, .func (PySem.W.fnOf "_law_is_row" "_law_is_row" (defArgs s__law_is_row) (defBody s__law_is_row) (defScope s__law_is_row) .none kV22 dc22 pm22 an22 cd22 ct22), sl22⟩) (c22 : PySem.W.codeIn K cd22 "_law_is_row" = true) (k22 : PySem.W.keepIn K (.ref f22) = true)
    {f23 : Addr} {od23 an23 : Option Addr} {sl23 : Array (Option Value)} {oc23 kV23 dc23 pm23 cd23 ct23 : Value}
    (a23 : PySem.W.nsIn K mainGlobals "_law_are_rows" = some (some (.ref f23))) (l23 : K.lookup f23 = some ⟨oc23, od23, .func (PySem.W.fnOf "_law_are_rows" "_law_are_rows" (defArgs s__law_are_rows) (defBody s__law_are_rows) (defScope s__law_are_rows) .none kV23 dc23 pm23 an23 cd23 ct23), sl23⟩) (c23 : PySem.W.codeIn K cd23 "_law_are_rows" = true) (k23 : PySem.W.keepIn K (.ref f23) = true)
    {f24 : Addr} {od24 an24 : Option Addr} {sl24 : Array (Option Value)} {oc24 kV24 dc24 pm24 cd24 ct24 : Value}
    (a24 : PySem.W.nsIn K mainGlobals "_law_is_note" = some (some (.ref f24))) (l24 : K.lookup f24 = some ⟨oc24, od24, .func (PySem.W.fnOf "_law_is_note" "_law_is_note" (defArgs s__law_is_note) (defBody s__law_is_note) (defScope s__law_is_note) .none kV24 dc24 pm24 an24 cd24 ct24), sl24⟩) (c24 : PySem.W.codeIn K cd24 "_law_is_note" = true) (k24 : PySem.W.keepIn K (.ref f24) = true)
    {f25 : Addr} {od25 an25 : Option Addr} {sl25 : Array (Option Value)} {oc25 kV25 dc25 pm25 cd25 ct25 : Value}
    (a25 : PySem.W.nsIn K mainGlobals "_law_is_commit" = some (some (.ref f25))) (l25 : K.lookup f25 = some ⟨oc25, od25, .func (PySem.W.fnOf "_law_is_commit" "_law_is_commit" (defArgs s__law_is_commit) (defBody s__law_is_commit) (defScope s__law_is_commit) .none kV25 dc25 pm25 an25 cd25 ct25), sl25⟩) (c25 : PySem.W.codeIn K cd25 "_law_is_commit" = true) (k25 : PySem.W.keepIn K (.ref f25) = true)
    {f26 : Addr} {od26 an26 : Option Addr} {sl26 : Array (Option Value)} {oc26 kV26 dc26 pm26 cd26 ct26 : Value}
    (a26 : PySem.W.nsIn K mainGlobals "_law_is_history" = some (some (.ref f26))) (l26 : K.lookup f26 = some ⟨oc26, od26, .func (PySem.W.fnOf "_law_is_history" "_law_is_history" (defArgs s__law_is_history) (defBody s__law_is_history) (defScope s__law_is_history) .none kV26 dc26 pm26 an26 cd26 ct26), sl26⟩) (c26 : PySem.W.codeIn K cd26 "_law_is_history" = true) (k26 : PySem.W.keepIn K (.ref f26) = true)
    {f27 : Addr} {od27 an27 : Option Addr} {sl27 : Array (Option Value)} {oc27 kV27 dc27 pm27 cd27 ct27 : Value}
    (a27 : PySem.W.nsIn K mainGlobals "_law_odd" = some (some (.ref f27))) (l27 : K.lookup f27 = some ⟨oc27, od27, .func (PySem.W.fnOf "_law_odd" "_law_odd" (defArgs s__law_odd) (defBody s__law_odd) (defScope s__law_odd) .none kV27 dc27 pm27 an27 cd27 ct27), sl27⟩) (c27 : PySem.W.codeIn K cd27 "_law_odd" = true) (k27 : PySem.W.keepIn K (.ref f27) = true)
    {f28 : Addr} {od28 an28 : Option Addr} {sl28 : Array (Option Value)} {oc28 kV28 dc28 pm28 cd28 ct28 : Value}
    (a28 : PySem.W.nsIn K mainGlobals "_law_put" = some (some (.ref f28))) (l28 : K.lookup f28 = some ⟨oc28, od28, .func (PySem.W.fnOf "_law_put" "_law_put" (defArgs s__law_put) (defBody s__law_put) (defScope s__law_put) .none kV28 dc28 pm28 an28 cd28 ct28), sl28⟩) (c28 : PySem.W.codeIn K cd28 "_law_put" = true) (k28 : PySem.W.keepIn K (.ref f28) = true)
    {f29 : Addr} {od29 an29 : Option Addr} {sl29 : Array (Option Value)} {oc29 kV29 dc29 pm29 cd29 ct29 : Value}
    (a29 : PySem.W.nsIn K mainGlobals "_law_odd_rows" = some (some (.ref f29))) (l29 : K.lookup f29 = some ⟨oc29, od29, .func (PySem.W.fnOf "_law_odd_rows" "_law_odd_rows" (defArgs s__law_odd_rows) (defBody s__law_odd_rows) (defScope s__law_odd_rows) .none kV29 dc29 pm29 an29 cd29 ct29), sl29⟩) (c29 : PySem.W.codeIn K cd29 "_law_odd_rows" = true) (k29 : PySem.W.keepIn K (.ref f29) = true)
    {f30 : Addr} {od30 an30 : Option Addr} {sl30 : Array (Option Value)} {oc30 kV30 dc30 pm30 cd30 ct30 : Value}
    (a30 : PySem.W.nsIn K mainGlobals "_law_odd_note" = some (some (.ref f30))) (l30 : K.lookup f30 = some ⟨oc30, od30, .func (PySem.W.fnOf "_law_odd_note" "_law_odd_note" (defArgs s__law_odd_note) (defBody s__law_odd_note) (defScope s__law_odd_note) .none kV30 dc30 pm30 an30 cd30 ct30), sl30⟩) (c30 : PySem.W.codeIn K cd30 "_law_odd_note" = true) (k30 : PySem.W.keepIn K (.ref f30) = true)
    {f31 : Addr} {od31 an31 : Option Addr} {sl31 : Array (Option Value)} {oc31 kV31 dc31 pm31 cd31 ct31 : Value}
    (a31 : PySem.W.nsIn K mainGlobals "_law_odd_commit" = some (some (.ref f31))) (l31 : K.lookup f31 = some ⟨oc31, od31, .func (PySem.W.fnOf "_law_odd_commit" "_law_odd_commit" (defArgs s__law_odd_commit) (defBody s__law_odd_commit) (defScope s__law_odd_commit) .none kV31 dc31 pm31 an31 cd31 ct31), sl31⟩) (c31 : PySem.W.codeIn K cd31 "_law_odd_commit" = true) (k31 : PySem.W.keepIn K (.ref f31) = true)
    {f32 : Addr} {od32 an32 : Option Addr} {sl32 : Array (Option Value)} {oc32 kV32 dc32 pm32 cd32 ct32 : Value}
    (a32 : PySem.W.nsIn K mainGlobals "_law_right" = some (some (.ref f32))) (l32 : K.lookup f32 = some ⟨oc32, od32, .func (PySem.W.fnOf "_law_right" "_law_right" (defArgs s__law_right) (defBody s__law_right) (defScope s__law_right) .none kV32 dc32 pm32 an32 cd32 ct32), sl32⟩) (c32 : PySem.W.codeIn K cd32 "_law_right" = true) (k32 : PySem.W.keepIn K (.ref f32) = true)
    {f33 : Addr} {od33 an33 : Option Addr} {sl33 : Array (Option Value)} {oc33 kV33 dc33 pm33 cd33 ct33 : Value}
    (a33 : PySem.W.nsIn K mainGlobals "law" = some (some (.ref f33))) (l33 : K.lookup f33 = some ⟨oc33, od33, .func (PySem.W.fnOf "law" "law" (defArgs s_law) (defBody s_law) (defScope s_law) .none kV33 dc33 pm33 an33 cd33 ct33), sl33⟩) (c33 : PySem.W.codeIn K cd33 "law" = true) (k33 : PySem.W.keepIn K (.ref f33) = true)
    (z0 : PySem.W.nsIn K mainGlobals "all" = some none)
    (z1 : PySem.W.nsIn K mainGlobals "bool" = some none)
    (z2 : PySem.W.nsIn K mainGlobals "dict" = some none)
    (z3 : PySem.W.nsIn K mainGlobals "enumerate" = some none)
    (z4 : PySem.W.nsIn K mainGlobals "int" = some none)
    (z5 : PySem.W.nsIn K mainGlobals "isinstance" = some none)
    (z6 : PySem.W.nsIn K mainGlobals "len" = some none)
    (z7 : PySem.W.nsIn K mainGlobals "list" = some none)
    (z8 : PySem.W.nsIn K mainGlobals "range" = some none)
    (z9 : PySem.W.nsIn K mainGlobals "repr" = some none)
    (z10 : PySem.W.nsIn K mainGlobals "sorted" = some none)
    (z11 : PySem.W.nsIn K mainGlobals "str" = some none)
    (z12 : PySem.W.nsIn K mainGlobals "tuple" = some none)
    (z13 : PySem.W.nsIn K mainGlobals "type" = some none)
    (z14 : PySem.W.nsIn K mainGlobals "zip" = some none) :
    ∃ fd : FuncData, (∀ (s : Shared) (v : Value), BindsTo s fd ⟨[v], []⟩ [("_law_script", v)]) ∧ ∀ base : Heap, K.In base → base.Ns mainGlobals mg → FnG l.prog w K mg base CX0 9 fa fd ["_law_script"] (spLaw K) := by
  have e := hfa.symm.trans (PySem.W.mg_of X G a33)
  cases e
  have Y := fx_mk X G a0 l0 c0 k0 a1 l1 c1 k1 a2 l2 c2 k2 a3 l3 c3 k3 a4 l4 c4 k4 a5 l5 c5 k5 a6 l6 c6 k6 a7 l7 c7 k7 a8 l8 c8 k8 a9 l9 c9 k9 a10 l10 c10 k10 a11 l11 c11 k11 a12 l12 c12 k12 a13 l13 c13 k13 a14 l14 c14 k14 a15 l15 c15 k15 a16 l16 c16 k16 a17 l17 c17 k17 a18 l18 c18 k18 a19 l19 c19 k19 a20 l20 c20 k20 a21 l21 c21 k21 a22 l22 c22 k22 a23 l23 c23 k23 a24 l24 c24 k24 a25 l25 c25 k25 a26 l26 c26 k26 a27 l27 c27 k27 a28 l28 c28 k28 a29 l29 c29 k29 a30 l30 c30 k30 a31 l31 c31 k31 a32 l32 c32 k32 a33 l33 c33 k33 z0 z1 z2 z3 z4 z5 z6 z7 z8 z9 z10 z11 z12 z13 z14
  exact ⟨PySem.W.fnOf "law" "law" (defArgs s_law) (defBody s_law) (defScope s_law) .none kV33 dc33 pm33 an33 cd33 ct33, fun s v => .of_eq rfl, fun base _ _ => ok_law (fx_mk X G a0 l0 c0 k0 a1 l1 c1 k1 a2 l2 c2 k2 a3 l3 c3 k3 a4 l4 c4 k4 a5 l5 c5 k5 a6 l6 c6 k6 a7 l7 c7 k7 a8 l8 c8 k8 a9 l9 c9 k9 a10 l10 c10 k10 a11 l11 c11 k11 a12 l12 c12 k12 a13 l13 c13 k13 a14 l14 c14 k14 a15 l15 c15 k15 a16 l16 c16 k16 a17 l17 c17 k17 a18 l18 c18 k18 a19 l19 c19 k19 a20 l20 c20 k20 a21 l21 c21 k21 a22 l22 c22 k22 a23 l23 c23 k23 a24 l24 c24 k24 a25 l25 c25 k25 a26 l26 c26 k26 a27 l27 c27 k27 a28 l28 c28 k28 a29 l29 c29 k29 a30 l30 c30 k30 a31 l31 c31 k31 a32 l32 c32 k32 a33 l33 c33 k33 z0 z1 z2 z3 z4 z5 z6 z7 z8 z9 z10 z11 z12 z13 z14)⟩
end My
open PySem PySem.W PyProof.Rows
set_option maxHeartbeats 0 in
theorem PySem.Challenge.cw_heldpasts_k87_notes_and_histories_judged_holds : PySem.Challenge.rw_heldpasts_k87_notes_and_histories_judged.Holds := by
  w_on; o_law; k_head; (case hw => w_witness2)
  k_fill
  refine My.walk_ofG (l := PySem.Challenge.rw_heldpasts_k87_notes_and_histories_judged) (n := 63) (k := 9) (x := "_law_script") (CX := fun _ => L2.CX0) (sp := fun w => My.spLaw _) rfl (by decide) rfl ⟨rfl, by decide, by decide⟩ (fun w h Y => PySem.W.kIn_of Y) ?F (fun _ _ a ns hl _ hS => ⟨a, ns, rfl, hS, hl, fun _ => rfl⟩) (fun _ _ _ _ _ h => h)
  case F =>
    intro w mg fa h KX G hmg
    refine' My.all_mk KX G hmg ?a0 ?l0 ?c0 ?k0 ?a1 ?l1 ?c1 ?k1 ?a2 ?l2 ?c2 ?k2 ?a3 ?l3 ?c3 ?k3 ?a4 ?l4 ?c4 ?k4 ?a5 ?l5 ?c5 ?k5 ?a6 ?l6 ?c6 ?k6 ?a7 ?l7 ?c7 ?k7 ?a8 ?l8 ?c8 ?k8 ?a9 ?l9 ?c9 ?k9 ?a10 ?l10 ?c10 ?k10 ?a11 ?l11 ?c11 ?k11 ?a12 ?l12 ?c12 ?k12 ?a13 ?l13 ?c13 ?k13 ?a14 ?l14 ?c14 ?k14 ?a15 ?l15 ?c15 ?k15 ?a16 ?l16 ?c16 ?k16 ?a17 ?l17 ?c17 ?k17 ?a18 ?l18 ?c18 ?k18 ?a19 ?l19 ?c19 ?k19 ?a20 ?l20 ?c20 ?k20 ?a21 ?l21 ?c21 ?k21 ?a22 ?l22 ?c22 ?k22 ?a23 ?l23 ?c23 ?k23 ?a24 ?l24 ?c24 ?k24 ?a25 ?l25 ?c25 ?k25 ?a26 ?l26 ?c26 ?k26 ?a27 ?l27 ?c27 ?k27 ?a28 ?l28 ?c28 ?k28 ?a29 ?l29 ?c29 ?k29 ?a30 ?l30 ?c30 ?k30 ?a31 ?l31 ?c31 ?k31 ?a32 ?l32 ?c32 ?k32 ?a33 ?l33 ?c33 ?k33 ?z0 ?z1 ?z2 ?z3 ?z4 ?z5 ?z6 ?z7 ?z8 ?z9 ?z10 ?z11 ?z12 ?z13 ?z14
    (case a0 => k_is); (case l0 => k_is); (case c0 => k_is); (case k0 => k_is); (case a1 => k_is); (case l1 => k_is); (case c1 => k_is); (case k1 => k_is); (case a2 => k_is); (case l2 => k_is); (case c2 => k_is); (case k2 => k_is); (case a3 => k_is); (case l3 => k_is); (case c3 => k_is); (case k3 => k_is); (case a4 => k_is); (case l4 => k_is); (case c4 => k_is); (case k4 => k_is); (case a5 => k_is); (case l5 => k_is); (case c5 => k_is); (case k5 => k_is); (case a6 => k_is); (case l6 => k_is); (case c6 => k_is); (case k6 => k_is); (case a7 => k_is); (case l7 => k_is); (case c7 => k_is); (case k7 => k_is); (case a8 => k_is); (case l8 => k_is); (case c8 => k_is); (case k8 => k_is); (case a9 => k_is); (case l9 => k_is); (case c9 => k_is); (case k9 => k_is); (case a10 => k_is); (case l10 => k_is); (case c10 => k_is); (case k10 => k_is); (case a11 => k_is); (case l11 => k_is); (case c11 => k_is); (case k11 => k_is); (case a12 => k_is); (case l12 => k_is); (case c12 => k_is); (case k12 => k_is); (case a13 => k_is); (case l13 => k_is); (case c13 => k_is); (case k13 => k_is); (case a14 => k_is); (case l14 => k_is); (case c14 => k_is); (case k14 => k_is); (case a15 => k_is); (case l15 => k_is); (case c15 => k_is); (case k15 => k_is); (case a16 => k_is); (case l16 => k_is); (case c16 => k_is); (case k16 => k_is); (case a17 => k_is); (case l17 => k_is); (case c17 => k_is); (case k17 => k_is); (case a18 => k_is); (case l18 => k_is); (case c18 => k_is); (case k18 => k_is); (case a19 => k_is); (case l19 => k_is); (case c19 => k_is); (case k19 => k_is); (case a20 => k_is); (case l20 => k_is); (case c20 => k_is); (case k20 => k_is); (case a21 => k_is); (case l21 => k_is); (case c21 => k_is); (case k21 => k_is); (case a22 => k_is); (case l22 => k_is); (case c22 => k_is); (case k22 => k_is); (case a23 => k_is); (case l23 => k_is); (case c23 => k_is); (case k23 => k_is); (case a24 => k_is); (case l24 => k_is); (case c24 => k_is); (case k24 => k_is); (case a25 => k_is); (case l25 => k_is); (case c25 => k_is); (case k25 => k_is); (case a26 => k_is); (case l26 => k_is); (case c26 => k_is); (case k26 => k_is); (case a27 => k_is); (case l27 => k_is); (case c27 => k_is); (case k27 => k_is); (case a28 => k_is); (case l28 => k_is); (case c28 => k_is); (case k28 => k_is); (case a29 => k_is); (case l29 => k_is); (case c29 => k_is); (case k29 => k_is); (case a30 => k_is); (case l30 => k_is); (case c30 => k_is); (case k30 => k_is); (case a31 => k_is); (case l31 => k_is); (case c31 => k_is); (case k31 => k_is); (case a32 => k_is); (case l32 => k_is); (case c32 => k_is); (case k32 => k_is); (case a33 => k_is); (case l33 => k_is); (case c33 => k_is); (case k33 => k_is); (case z0 => k_is); (case z1 => k_is); (case z2 => k_is); (case z3 => k_is); (case z4 => k_is); (case z5 => k_is); (case z6 => k_is); (case z7 => k_is); (case z8 => k_is); (case z9 => k_is); (case z10 => k_is); (case z11 => k_is); (case z12 => k_is); (case z13 => k_is); (case z14 => k_is)

