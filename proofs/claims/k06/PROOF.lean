import PyProof.Rows.All
import Wide.All
import OpenK.AllK
import Wide.FinOn
import HandS.ForMost
import HandS.Wide
import HandS.More
import HandS.StrMore
import HandS.FStr
import HandS.IsInst
import HandS.TupAny
import HandS.Style
import HandS.Exc
import HandS.TryOnly
import HandS.ExcOwn
import HandS.WordsExc
import HandS.Evl
import HandS.Codes
import HandS.SortKw
import KE.DatumOrd
import HandS.Replace
import HandS.ReplaceList
import HandS.TryMany
import HandS.RaiseMore
import HandS.DictComp
import KE.GoesEnumKw
import KE.GoesMore
import KE.SortData
import KE.KDictPairs
import KE.GoesEnum
import HandS.ExcIs
import HandS.ExcValue
import PyProof.RulesAs
import HandS.MakeKwOnly
import HandS.CallSlots
import HandS.Rev
import HandS.Zip
import HandS.TupMul
import PySem.Challenge.RW_heldpasts_k06_whole_deeds_of_disks
set_option Elab.async false
set_option linter.all false
set_option maxRecDepth 100000
set_option maxHeartbeats 4000000
/-! ### my rules: one name an operator, whatever the kinds -/
namespace My
open PySem PySem.Spec PyProof.Rows L2
section
variable {X : Cx}
theorem hu_64 {A : Around} {k : Nat} (hr : Room k A) : A.units + 64 < cLine := hr.units
/-! #### + -/
def rAddS : R2 := fun x y H Q => ∃ i j, x = .str i ∧ y = .str j ∧ i.length + j.length ≤ sizeLine ∧ Q (.str (i ++ j)) H
def rADD (K : PySem.W.Frag) : R2 := fun x y H Q => rI0 (fun i j => .int (i + j)) x y H Q ∨ rAddS x y H Q ∨ rCat x y H Q ∨ rCatA K x y H Q
theorem op_ADD : OpR X (binaryOp .Add) (rADD X.K) := op_add.or (OpR.or (r := rAddS) op_add_str (op_cat.or op_catA))
def rSUB : R2 := rI0 fun i j => .int (i - j)
theorem op_SUB : OpR X (binaryOp .Sub) rSUB := op_sub
/-! #### * -/
theorem cps_repl (l : Array Nat) (k : Nat) : (List.replicate k l).foldl (· ++ ·) #[] = ((List.replicate k l.toList).flatten).toArray := by
  have h : ∀ (n : Nat) (acc : Array Nat), (List.replicate n l).foldl (· ++ ·) acc = acc ++ ((List.replicate n l.toList).flatten).toArray := by
    intro n
    induction n with
    | zero => intro acc; simp
    | succ n ih =>
      intro acc
      rw [List.replicate_succ, List.foldl_cons, ih, List.replicate_succ, List.flatten_cons]
      apply Array.ext'
      simp
  rw [h]
  simp
/-- a text so many times -/
def repS (x : Str) (k : Int) : Str := ⟨((List.replicate k.toNat x.cps.toList).flatten).toArray⟩
def rMulS : R2 := fun x y H Q => ∃ z k, x = .str z ∧ y = .int k ∧ -(2 ^ 63) ≤ k ∧ k < 2 ^ 63 ∧ z.length * k.toNat ≤ sizeLine ∧ Q (.str (repS z k)) H
theorem op_mul_str : OpR X (binaryOp .Mult) rMulS := by
  intro pins s σ H x y v u Q I rx ry h
  obtain ⟨z, k, rfl, rfl, h1, h2, hz, q⟩ := h
  obtain ⟨t, rfl⟩ := rx
  obtain ⟨t', rfl⟩ := ry
  have hz' : z.length * k.toNat ≤ 2 ^ 24 := hz
  refine P.mul_str ?_ ?_ ?_ ?_
  · rw [decide_eq_false (by omega), decide_eq_false (by omega)]; rfl
  · intro h1 h3
    have hk : 0 < k := by omega
    have h4 : (z.length : Int) * k ≤ 2 ^ 24 := by
      have : ((z.length * k.toNat : Nat) : Int) ≤ 2 ^ 24 := by exact_mod_cast hz'
      rw [Int.natCast_mul, Int.toNat_of_nonneg (by omega)] at this
      exact this
    intro h5
    have h6 : (2 ^ 63 - 1) / k < (z.length : Int) := h5
    have h7 := (Int.ediv_lt_iff_lt_mul hk).mp h6
    omega
  · intro h1 h3
    exact decide_eq_false (Nat.not_lt.mpr hz)
  · by_cases h3 : k < 1
    · rw [if_pos h3]
      have e : repS z k = Str.empty := by
        unfold repS
        rw [show k.toNat = 0 by omega]
        rfl
      rw [e] at q
      exact ⟨by decide, ⟨.str Str.empty, H, I.tok _, ⟨_, rfl⟩, q⟩⟩
    · rw [if_neg h3]
      by_cases h4 : (k == 1 || z.length == 0) = true
      · rw [if_pos h4]
        have e : repS z k = z := by
          unfold repS
          rcases Bool.or_eq_true _ _ ▸ h4 with h5 | h5
          · rw [show k.toNat = 1 by have := of_decide_eq_true h5; omega]
            simp
          · have h6 : z.length = 0 := by simpa using h5
            have h7 : z.cps.toList = [] := by
              apply List.eq_nil_of_length_eq_zero
              rw [Array.length_toList]
              exact h6
            rw [h7]
            rcases z with ⟨c⟩
            have h8 : c = #[] := Array.ext' (by simpa using h7)
            subst h8
            simp
        rw [e] at q
        exact ⟨.str z, H, I, ⟨_, rfl⟩, q⟩
      · rw [if_neg h4]
        refine ⟨?_, ⟨.str (repS z k), H, I.tok _, ⟨s.toks, ?_⟩, q⟩⟩
        · show Str.length ⟨_⟩ ≤ sizeLine
          rw [cps_repl]
          show (List.toArray _).size ≤ sizeLine
          rw [List.size_toArray, List.length_flatten, List.map_replicate, List.sum_replicate_nat, Array.length_toList]
          show k.toNat * z.length ≤ sizeLine
          rw [Nat.mul_comm]
          exact hz
        · rw [cps_repl]
          rfl
def CMulA (i j : Int) : Prop := CMul i j ∨ CMulW i j
def rMulI : R2 := fun x y H Q => ∃ i j, x = .int i ∧ y = .int j ∧ CMulA i j ∧ Q (.int (i * j)) H
theorem op_mulA : OpR X (binaryOp .Mult) rMulI := opI fun _ _ _ _ _ _ _ hc q => mul_int q (hc.elim (fun h => h.ok) fun h => h.ok)
def rMUL (K : PySem.W.Frag) : R2 := fun x y H Q => rMulI x y H Q ∨ rMulS x y H Q ∨ rRep x y H Q
theorem op_MUL : OpR X (binaryOp .Mult) (rMUL X.K) := op_mulA.or (op_mul_str.or op_rep)
/-! #### //, percent, ** -/
def rMOD : R2 := rI (fun _ j => 0 < j) fun i j => .int (i % j)
theorem op_MOD : OpR X (binaryOp .Mod) rMOD := op_mod
def rFDIV : R2 := rI CDivW fun i j => .int (i / j)
theorem op_FDIV : OpR X (binaryOp .FloorDiv) rFDIV := op_fdivW
def rPOW : R2 := rI CPow fun i j => .int (i ^ j.toNat)
theorem op_POW : OpR X (binaryOp .Pow) rPOW := op_pow
def rNEG : V → Hp → VK → Prop := rU fun i => .int (-i)
theorem un_NEG : UnR X (unaryOp .USub) rNEG := un_neg
/-! #### comparisons -/
def rEQ (K : PySem.W.Frag) : R2 := fun x y H Q => rEq x y H Q ∨ rEqD K x y H Q
theorem op_EQ (hu : X.A.units + 64 < cLine) : OpR X (compareOp .Eq) (rEQ X.K) := op_eq.or (op_eqD hu)
def rNE (K : PySem.W.Frag) : R2 := fun x y H Q => rNe x y H Q ∨ rNeD K x y H Q
theorem op_NE (hu : X.A.units + 64 < cLine) : OpR X (compareOp .NotEq) (rNE X.K) := op_ne.or (op_neD hu)
def rCI (p : Int → Int → Bool) : R2 := rI0 fun i j => .bl (p i j)
def rCS (p : List Nat → List Nat → Bool) : R2 := fun x y H Q => ∃ i j, x = .str i ∧ y = .str j ∧ Q (.bl (p i.cps.toList j.cps.toList)) H
def rLT : R2 := fun x y H Q => rCI (fun i j => decide (i < j)) x y H Q ∨ rCS (fun i j => decide (i < j)) x y H Q
theorem op_LT : OpR X (compareOp .Lt) rLT := OpR.or (r := rCI _) (r' := rCS _) op_lt op_lt_str
def rLE : R2 := fun x y H Q => rCI (fun i j => decide (i ≤ j)) x y H Q ∨ rCS (fun i j => !decide (j < i)) x y H Q
theorem op_LE : OpR X (compareOp .LtE) rLE := OpR.or (r := rCI _) (r' := rCS _) op_le op_le_str
def rGT : R2 := fun x y H Q => rCI (fun i j => decide (j < i)) x y H Q ∨ rCS (fun i j => decide (j < i)) x y H Q
theorem op_GT : OpR X (compareOp .Gt) rGT := OpR.or (r := rCI _) (r' := rCS _) op_gt op_gt_str
def rGE : R2 := fun x y H Q => rCI (fun i j => decide (j ≤ i)) x y H Q ∨ rCS (fun i j => !decide (i < j)) x y H Q
theorem op_GE : OpR X (compareOp .GtE) rGE := OpR.or (r := rCI _) (r' := rCS _) op_ge op_ge_str
/-- is: None; types; a truth on the right -/
def rIsT (f : Bool → Bool) : R2 := fun x y H Q => ∃ b, y = .bl b ∧ Q (.bl (f (decide (x = .bl b)))) H
theorem op_is_true : OpR X (compareOp .Is) (rIsT id) := by
  intro pins s σ H x y v u Q I rx ry h
  obtain ⟨b, rfl, q⟩ := h
  cases (show u = Value.bool b from ry)
  by_cases e : x = .bl b
  · subst e
    cases (show v = Value.bool b from rx)
    exact wpAny_is_self rfl ⟨.bl true, H, I, rfl, by simpa using q⟩
  · have ne : v ≠ Value.bool b := by
      rintro rfl
      apply e
      cases x <;> first
        | (cases rx; done)
        | (cases rx; rfl)
        | (obtain ⟨t, z⟩ := rx; cases z)
    have hp : plainIs v (Value.bool b) = true := by
      cases x <;> first
        | (cases rx; rfl)
        | (obtain ⟨t, rfl⟩ := rx; rfl)
    exact wpAny_is_other hp ne ⟨.bl false, H, I, rfl, by simpa [e] using q⟩
theorem op_isnot_true : OpR X (compareOp .IsNot) (rIsT not) := by
  intro pins s σ H x y v u Q I rx ry h
  obtain ⟨b, rfl, q⟩ := h
  cases (show u = Value.bool b from ry)
  by_cases e : x = .bl b
  · subst e
    cases (show v = Value.bool b from rx)
    exact wpAny_isNot_self rfl ⟨.bl false, H, I, rfl, by simpa using q⟩
  · have ne : v ≠ Value.bool b := by
      rintro rfl
      apply e
      cases x <;> first
        | (cases rx; done)
        | (cases rx; rfl)
        | (obtain ⟨t, z⟩ := rx; cases z)
    have hp : plainIs v (Value.bool b) = true := by
      cases x <;> first
        | (cases rx; rfl)
        | (obtain ⟨t, rfl⟩ := rx; rfl)
    exact wpAny_isNot_other hp ne ⟨.bl true, H, I, rfl, by simpa [e] using q⟩
def rIsN1 (f : Bool → Bool) : R2 := fun x y H Q => y = .non ∧ Q (.bl (f (decide (x = .non)))) H
def rIsTy (f : Bool → Bool) : R2 := fun x y H Q => ∃ m n, x = .ty m ∧ y = .ty n ∧ Q (.bl (f (decide (m = n)))) H
def rIS (_ : PySem.W.Frag) : R2 := fun x y H Q => rIsN1 id x y H Q ∨ rIsTy id x y H Q ∨ rIsT id x y H Q
theorem op_IS : OpR X (compareOp .Is) (rIS X.K) := OpR.or (r := rIsN1 id) op_isN (OpR.or (r := rIsTy id) op_isTyB op_is_true)
def rISN (_ : PySem.W.Frag) : R2 := fun x y H Q => rIsN1 not x y H Q ∨ rIsTy not x y H Q ∨ rIsT not x y H Q
theorem op_ISN : OpR X (compareOp .IsNot) (rISN X.K) := OpR.or (r := rIsN1 not) op_notN (OpR.or (r := rIsTy not) op_notTyB op_isnot_true)
/-- in: a sign in a text; in a list or tuple -/
def rInSg (f : Bool → Bool) : R2 := fun x y H Q => ∃ (c : Nat) (z : Str), x = .str ⟨#[c]⟩ ∧ y = .str z ∧ Q (.bl (f (decide (c ∈ z.cps.toList)))) H
def rINU (K : PySem.W.Frag) : R2 := fun x y H Q => rInSg id x y H Q ∨ rIn K false x y H Q
theorem op_IN : OpR X (compareOp .In) (rINU X.K) := OpR.or (r := rInSg id) op_in_sign op_in_seq
def rNINU (K : PySem.W.Frag) : R2 := fun x y H Q => rInSg not x y H Q ∨ rIn K true x y H Q
theorem op_NIN : OpR X (compareOp .NotIn) (rNINU X.K) := OpR.or (r := rInSg not) op_notIn_sign op_notIn_seq
/-! #### subscripts, slices -/
def rIX (K : PySem.W.Frag) : R2 := rIx K
theorem ix_SEQ : IxR X (rIX X.K) := ix_seq
def rSL (K : PySem.W.Frag) : V → Option Int → Option Int → Hp → VK → Prop := fun x lo hi H Q => rSlS x lo hi H Q ∨ rSlL K x lo hi H Q ∨ rSlA K x lo hi H Q
theorem sl_SEQ : SlR X (rSL X.K) := SlR.or sl_str (SlR.or sl_list sl_tupA)
/-! #### tests -/
def tTru1 (K : PySem.W.Frag) (ta : TE) : TT := fun σ H Q => ta σ H fun x H' => ∃ k, TruV K x H' k ∧ Q k H'
theorem pt_tru {a : Expr} {ta : TE} (ha : PE X a ta) (he : ∀ whole, isTrue a X.env whole = (do let v ← whole; standAt a.pos; holding [v] (truthy v))) : PT X a (tTru1 X.K ta) := pt_truth ha he
/-! #### the module's constants -/
theorem pe_cI {x : Str} {i : Int} {pos : Pos} (hg : Gl X x) (h : ∃ t, X.mg x = some (.int i t)) (hd : (x == ("__debug__" : Str)) = false := by decide) : PE X (.Name x pos) (tC (.int i)) := by
  obtain ⟨t, h⟩ := h
  exact pe_glob hg h ⟨t, rfl⟩ hd
theorem pe_cS {x : Str} {i : Str} {pos : Pos} (hg : Gl X x) (h : ∃ t, X.mg x = some (.str i t)) (hd : (x == ("__debug__" : Str)) = false := by decide) : PE X (.Name x pos) (tC (.str i)) := by
  obtain ⟨t, h⟩ := h
  exact pe_glob hg h ⟨t, rfl⟩ hd
theorem pe_cR {x : Str} {a : Addr} {pos : Pos} (hg : Gl X x) (h : X.mg x = some (.ref a)) (hd : (x == ("__debug__" : Str)) = false := by decide) : PE X (.Name x pos) (tC (.ref a)) := pe_glob hg h rfl hd
/-! #### calls with keywords alone -/
section
variable {CX : CXT} {k : Nat} {f C : Addr} {fd : FuncData} {ps ks : List Str} {sp : Sp} {E : XK} {x m : Str} {p pos apos kpos : Pos} {e o : Expr} {es : List Expr} {kws : List Keyword} {te ta : TE} {t tk : TA} {nm : Option Str}
variable {g : List Value → List Value → List Value} {gV : List V → List V → List V}
def tCallK0 (sp : Sp) (gV : List V → List V → List V) (E : XK) (tk : TA) : TE := fun σ H Q => tk σ H fun zs H2 => sp (gV [] zs) H2 Q E
theorem pe_callK0 (F : FnOk X.prog X.w X.K X.mg X.base CX k f fd ps sp) (hr : Room k X.A) (hg : Gl X x) (hm : X.mg x = some (.ref f)) (hk : PySem.W.keepIn X.K (.ref f) = true) (hb : KBinds X.K fd ps ks g gV) (hx : Passes CX X E)
    (hkw : PK X kws tk) (hall : (backToKw pos (keywordEach kws X.env)).all (·.1.isSome) = true := by rfl) (hks : (backToKw pos (keywordEach kws X.env)).filterMap (·.1) = ks := by rfl)
    (hdb : (x == ("__debug__" : Str)) = false := by decide)
    (hpl : ((backTo pos (starEach [] X.env)).any (·.1) || (backToKw pos (keywordEach kws X.env)).any (·.1.isNone)) = false := by rfl) :
    PE X (.Call (.Name x p) [] kws pos) (tCallK0 sp gV E tk) := by
  refine ⟨fun pins s σ H Q I h => ?_⟩
  refine wpAny_Call_Name_kw (ld_glob I hg hm ?_ hdb)
  refine PySem.W.callWith_KW0 (h₀ := X.base) I.ok.mod.kin hk hall ?_ hpl
  refine thn (hkw.run pos pins s σ H _ I h) fun ws s2 ⟨zs, H2, I2, rz, q2⟩ => ⟨I2.kIn, ?_⟩
  rw [hks]
  exact run_fnk (us := []) (vs := []) F hr hb hx I2 .nil rz q2
end
/-! #### built-ins -/
def rINT : List V → Hp → VK → Prop := fun xs H Q => ((∃ i, xs = [.int i] ∧ Q (.int i) H) ∨ ∃ k, xs = [.bl k] ∧ Q (.int (if k then 1 else 0)) H) ∨ ∃ a n, xs = [.str a] ∧ PySem.intText? a = some n ∧ a.length ≤ 640 ∧ Q (.int n) H
theorem call_INT : CallR X (.type "int") rINT := call_int1.or call_int_str
def rSTR : List V → Hp → VK → Prop := fun xs H Q => ∃ i, xs = [.int i] ∧ i.natAbs.log2 < 1920 ∧ Q (.str (toString i)) H
theorem call_STR : CallR X (.type "str") rSTR := call_str_int
def rTUPLE (K : PySem.W.Frag) : List V → Hp → VK → Prop := fun xs H Q => ∃ p ys, xs = [.ref p] ∧ ((SqL K H p ys ∧ ∀ l, H l = none → Q (.ref l) (upd H l (.tup ys))) ∨ (SqT K H p ys ∧ Q (.ref p) H))
theorem call_TUPLE : CallR X (.type "tuple") (rTUPLE X.K) := call_tuple_of
def rLIST (K : PySem.W.Frag) : List V → Hp → VK → Prop := fun xs H Q => ∃ p ys, xs = [.ref p] ∧ (SqL K H p ys ∨ SqT K H p ys) ∧ ∀ l, H l = none → Q (.ref l) (upd H l (.lst ys))
theorem call_LIST : CallR X (.type "list") (rLIST X.K) := call_list_of
def rLenQ (K : PySem.W.Frag) : List V → Hp → VK → Prop := fun xs H Q => ∃ p ys, xs = [.ref p] ∧ (SqL K H p ys ∨ SqT K H p ys) ∧ Q (.int ys.length) H
def rLenS : List V → Hp → VK → Prop := fun xs H Q => ∃ z, xs = [.str z] ∧ z.length ≤ sizeLine ∧ Q (.int z.length) H
def rLEN (K : PySem.W.Frag) : List V → Hp → VK → Prop := fun xs H Q => rLenS xs H Q ∨ rLenQ K xs H Q
theorem call_LEN : CallR X (.builtin "len") (rLEN X.K) := CallR.or (r := rLenS) (r' := rLenQ X.K) call_len_str call_len_seq
def rABS : List V → Hp → VK → Prop := fun xs H Q => ∃ i, xs = [.int i] ∧ Q (.int (if i < 0 then -i else i)) H
theorem call_ABS : CallR X (.builtin "abs") rABS := call_abs
def rMAX2 : List V → Hp → VK → Prop := fun xs H Q => ∃ i j, xs = [.int i, .int j] ∧ Q (.int (if j > i then j else i)) H
theorem call_MAX2 (hc : X.calm = true) : CallR X (.builtin "max") rMAX2 := call_max2 hc
def rMIN2 : List V → Hp → VK → Prop := fun xs H Q => ∃ i j, xs = [.int i, .int j] ∧ Q (.int (if j < i then j else i)) H
theorem call_MIN2 (hc : X.calm = true) : CallR X (.builtin "min") rMIN2 := call_min2 hc
def rISI (K : PySem.W.Frag) : List V → Hp → VK → Prop := fun xs H Q => rIsi K xs H Q ∨ rIsiT K xs H Q
theorem call_ISI : CallR X (.builtin "isinstance") (rISI X.K) := call_isi.or call_isiT
/-! #### methods -/
def rM_isascii : V → List V → Hp → VK → Prop := fun x xs H Q => ∃ a, x = .str a ∧ xs = [] ∧ True ∧ Q (.bl (Txt.isascii a)) H
def rM_isprintable : V → List V → Hp → VK → Prop := fun x xs H Q => ∃ a, x = .str a ∧ xs = [] ∧ True ∧ Q (.bl (Txt.isprintable a)) H
def rM_isdigit : V → List V → Hp → VK → Prop := fun x xs H Q => ∃ a, x = .str a ∧ xs = [] ∧ True ∧ Q (.bl (Txt.isdigit a)) H
def rM_find : V → List V → Hp → VK → Prop := fun x xs H Q => ∃ a b, x = .str a ∧ xs = [.str b] ∧ Q (.int (Txt.find a b)) H
def rM_zfill : V → List V → Hp → VK → Prop := fun x xs H Q => ∃ (a : Str) (i : Int), x = .str a ∧ xs = [.int i] ∧ PadOk i = true ∧ Q (.str (Txt.zfill a i)) H
def rM_rjust : V → List V → Hp → VK → Prop := fun x xs H Q => ∃ (a : Str) (i : Int), x = .str a ∧ xs = [.int i] ∧ PadOk i = true ∧ Q (.str (Txt.rjust a i)) H
def rJoin (K : PySem.W.Frag) : V → List V → Hp → VK → Prop := fun x xs H Q => ∃ a p, ∃ ys : List Str, x = .str a ∧ xs = [.ref p] ∧ (SqL K H p (ys.map V.str) ∨ SqT K H p (ys.map V.str)) ∧
      (ys.map (·.length)).sum + ys.length * a.length ≤ 16777216 ∧ Q (.str (Txt.join a ys)) H
def rPOP : V → List V → Hp → VK → Prop := rPopAt
theorem mt_POP : MtR X "list.pop" rPOP := mt_popAt
theorem mt_FIND : MtR X "str.find" rM_find := mt_find
theorem mt_ZFILL : MtR X "str.zfill" rM_zfill := mt_zfill
theorem mt_RJUST : MtR X "str.rjust" rM_rjust := mt_rjust
/-- {x:0wd}: a number not below 0, with noughts ahead up to w signs -/
def zpad (w : Nat) (i : Int) : Str := ⟨(List.replicate (w - (Nat.toDigits 10 i.toNat).length) 48 ++ (Nat.toDigits 10 i.toNat).map Char.toNat).toArray⟩
end
end My

set_option Elab.async false
set_option linter.all false
set_option maxRecDepth 100000
set_option maxHeartbeats 400000
namespace My
open PySem PySem.Spec PyProof.Rows L2
section
variable {X : Cx}
theorem zpad_of {w : Nat} {a : Int} {D : List Nat} (h0 : 0 ≤ a) (hD : D = (Nat.toDigits 10 a.natAbs).map Char.toNat) (p1 : Nat) (p2 : Nat) (h1 : p1 = w - D.length) (h2 : p2 = 0) :
    (⟨(List.replicate 0 48 ++ [] ++ [] ++ List.replicate p2 48 ++ (List.replicate p1 48 ++ D) ++ [] ++ List.replicate 0 48).toArray⟩ : Str) = zpad w a := by
  subst hD h1 h2
  unfold zpad
  have e : a.natAbs = a.toNat := by omega
  rw [e, List.length_map]
  simp
theorem zpad_len {w : Nat} {a : Int} (h0 : 0 ≤ a) (hl : a.natAbs.log2 < 1920) (hw : w ≤ 100) : (zpad w a).length ≤ sizeLine := by
  have h1 : (Nat.toDigits 10 a.toNat).length ≤ 1921 := by
    have h2 : a.toNat < 10 ^ 1921 := by
      have h3 : a.toNat < 2 ^ 1920 := by
        have h4 : a.toNat = a.natAbs := by omega
        rw [h4]
        by_cases hz : a.natAbs = 0
        · rw [hz]; exact Nat.two_pow_pos _
        · exact (Nat.log2_lt hz).mp hl
      exact Nat.lt_of_lt_of_le h3 (Nat.le_trans (Nat.pow_le_pow_left (show 2 ≤ 10 by decide) 1920) (Nat.pow_le_pow_right (by decide) (by decide)))
    have h5 := (Nat.length_repr_le_iff (n := a.toNat) (k := 1921) (by decide)).mpr h2
    rwa [← String.length_toList, Nat.toList_repr] at h5
  show (List.toArray _).size ≤ sizeLine
  rw [List.size_toArray, List.length_append, List.length_replicate, List.length_map]
  exact Nat.le_trans (show _ ≤ 2100 by omega) (by decide)
theorem ret_text2 {M : Model} {A : Around} {E : Value → Shared → Prop} {s : Shared} {X T : PySem.Str} {Q : PySem.Fin → Shared → Prop} (e : X = T) (hL : T.length ≤ sizeLine) (h : ∀ t k, Q (.done (.ret (.str T t))) { s with toks := k }) : wpAny M A (retStr X) Q E s := by
  subst e
  exact PySem.W.KXf.ret_text rfl hL h
theorem fmt0_meets_3 {a : Int} {t : Tok} (h0 : 0 ≤ a) (hl : a.natAbs.log2 < 1920) :
  ∀ u, Meets (Builtin.«int.__format__» ⟨[.int a t, .str (Str.ofString "03d") u], []⟩) (fun _ R s => ∀ t' k, R (.ok (.ret (.str (zpad 3 a) t'))) { s with toks := k }) := by
  have hn : decide (a < 0) = false := decide_eq_false (by omega)
  intro u
  apply PySem.W.KPc.meets_of
  intro prog w A s Q E h
  unfold Builtin.«int.__format__»
  refine wpAny_bind (wpAny_of_eq (a := (_, _)) rfl ?_)
  refine wpAny_bind (wpAny_of_eq (a := _) rfl ?_)
  kxf_if
  refine wpAny_bind (wpAny_typeNameOf (T := "str") (typeIs_str _ _ _) (by decide) fun _ => ?_)
  refine wpAny_bind (wpAny_of_eq (a := some _) rfl ?_)
  kxf_if
  kxf_if
  refine wpAny_bind (wpAny_typeNameOfCut_int ?_)
  (repeat kxf_if)
  refine wpAny_bind (wpAny_of_eq (PySem.overDigitLimit_small hl) ?_)
  (repeat kxf_if)
  refine ret_text2 (T := zpad 3 a) ?_ (zpad_len h0 hl (by decide)) (fun t' k => h t' k)
  rw [hn]
  generalize hD : (List.map _ (Nat.toDigits _ a.natAbs)) = D
  have hD' : D = (Nat.toDigits 10 a.natAbs).map Char.toNat := hD.symm
  clear hD
  cases D with
  | nil => exact absurd (congrArg List.length hD') (by rw [List.length_map]; have := Nat.length_toDigits_pos (b := 10) (n := a.natAbs); simp; omega)
  | cons d ds =>
    refine zpad_of h0 hD' _ _ ?_ ?_
    · rfl
    · show ((3 : Int) - 0 - (((List.replicate (3 - (d :: ds).length) 48 ++ (d :: ds)).length : Nat) : Int)).toNat = 0
      rw [List.length_append, List.length_replicate]
      omega
theorem fmt0_meets_4 {a : Int} {t : Tok} (h0 : 0 ≤ a) (hl : a.natAbs.log2 < 1920) :
  ∀ u, Meets (Builtin.«int.__format__» ⟨[.int a t, .str (Str.ofString "04d") u], []⟩) (fun _ R s => ∀ t' k, R (.ok (.ret (.str (zpad 4 a) t'))) { s with toks := k }) := by
  have hn : decide (a < 0) = false := decide_eq_false (by omega)
  intro u
  apply PySem.W.KPc.meets_of
  intro prog w A s Q E h
  unfold Builtin.«int.__format__»
  refine wpAny_bind (wpAny_of_eq (a := (_, _)) rfl ?_)
  refine wpAny_bind (wpAny_of_eq (a := _) rfl ?_)
  kxf_if
  refine wpAny_bind (wpAny_typeNameOf (T := "str") (typeIs_str _ _ _) (by decide) fun _ => ?_)
  refine wpAny_bind (wpAny_of_eq (a := some _) rfl ?_)
  kxf_if
  kxf_if
  refine wpAny_bind (wpAny_typeNameOfCut_int ?_)
  (repeat kxf_if)
  refine wpAny_bind (wpAny_of_eq (PySem.overDigitLimit_small hl) ?_)
  (repeat kxf_if)
  refine ret_text2 (T := zpad 4 a) ?_ (zpad_len h0 hl (by decide)) (fun t' k => h t' k)
  rw [hn]
  generalize hD : (List.map _ (Nat.toDigits _ a.natAbs)) = D
  have hD' : D = (Nat.toDigits 10 a.natAbs).map Char.toNat := hD.symm
  clear hD
  cases D with
  | nil => exact absurd (congrArg List.length hD') (by rw [List.length_map]; have := Nat.length_toDigits_pos (b := 10) (n := a.natAbs); simp; omega)
  | cons d ds =>
    refine zpad_of h0 hD' _ _ ?_ ?_
    · rfl
    · show ((4 : Int) - 0 - (((List.replicate (4 - (d :: ds).length) 48 ++ (d :: ds)).length : Nat) : Int)).toNat = 0
      rw [List.length_append, List.length_replicate]
      omega
theorem fmt0_meets_6 {a : Int} {t : Tok} (h0 : 0 ≤ a) (hl : a.natAbs.log2 < 1920) :
  ∀ u, Meets (Builtin.«int.__format__» ⟨[.int a t, .str (Str.ofString "06d") u], []⟩) (fun _ R s => ∀ t' k, R (.ok (.ret (.str (zpad 6 a) t'))) { s with toks := k }) := by
  have hn : decide (a < 0) = false := decide_eq_false (by omega)
  intro u
  apply PySem.W.KPc.meets_of
  intro prog w A s Q E h
  unfold Builtin.«int.__format__»
  refine wpAny_bind (wpAny_of_eq (a := (_, _)) rfl ?_)
  refine wpAny_bind (wpAny_of_eq (a := _) rfl ?_)
  kxf_if
  refine wpAny_bind (wpAny_typeNameOf (T := "str") (typeIs_str _ _ _) (by decide) fun _ => ?_)
  refine wpAny_bind (wpAny_of_eq (a := some _) rfl ?_)
  kxf_if
  kxf_if
  refine wpAny_bind (wpAny_typeNameOfCut_int ?_)
  (repeat kxf_if)
  refine wpAny_bind (wpAny_of_eq (PySem.overDigitLimit_small hl) ?_)
  (repeat kxf_if)
  refine ret_text2 (T := zpad 6 a) ?_ (zpad_len h0 hl (by decide)) (fun t' k => h t' k)
  rw [hn]
  generalize hD : (List.map _ (Nat.toDigits _ a.natAbs)) = D
  have hD' : D = (Nat.toDigits 10 a.natAbs).map Char.toNat := hD.symm
  clear hD
  cases D with
  | nil => exact absurd (congrArg List.length hD') (by rw [List.length_map]; have := Nat.length_toDigits_pos (b := 10) (n := a.natAbs); simp; omega)
  | cons d ds =>
    refine zpad_of h0 hD' _ _ ?_ ?_
    · rfl
    · show ((6 : Int) - 0 - (((List.replicate (6 - (d :: ds).length) 48 ++ (d :: ds)).length : Nat) : Int)).toNat = 0
      rw [List.length_append, List.length_replicate]
      omega
theorem fmt0_meets_8 {a : Int} {t : Tok} (h0 : 0 ≤ a) (hl : a.natAbs.log2 < 1920) :
  ∀ u, Meets (Builtin.«int.__format__» ⟨[.int a t, .str (Str.ofString "08d") u], []⟩) (fun _ R s => ∀ t' k, R (.ok (.ret (.str (zpad 8 a) t'))) { s with toks := k }) := by
  have hn : decide (a < 0) = false := decide_eq_false (by omega)
  intro u
  apply PySem.W.KPc.meets_of
  intro prog w A s Q E h
  unfold Builtin.«int.__format__»
  refine wpAny_bind (wpAny_of_eq (a := (_, _)) rfl ?_)
  refine wpAny_bind (wpAny_of_eq (a := _) rfl ?_)
  kxf_if
  refine wpAny_bind (wpAny_typeNameOf (T := "str") (typeIs_str _ _ _) (by decide) fun _ => ?_)
  refine wpAny_bind (wpAny_of_eq (a := some _) rfl ?_)
  kxf_if
  kxf_if
  refine wpAny_bind (wpAny_typeNameOfCut_int ?_)
  (repeat kxf_if)
  refine wpAny_bind (wpAny_of_eq (PySem.overDigitLimit_small hl) ?_)
  (repeat kxf_if)
  refine ret_text2 (T := zpad 8 a) ?_ (zpad_len h0 hl (by decide)) (fun t' k => h t' k)
  rw [hn]
  generalize hD : (List.map _ (Nat.toDigits _ a.natAbs)) = D
  have hD' : D = (Nat.toDigits 10 a.natAbs).map Char.toNat := hD.symm
  clear hD
  cases D with
  | nil => exact absurd (congrArg List.length hD') (by rw [List.length_map]; have := Nat.length_toDigits_pos (b := 10) (n := a.natAbs); simp; omega)
  | cons d ds =>
    refine zpad_of h0 hD' _ _ ?_ ?_
    · rfl
    · show ((8 : Int) - 0 - (((List.replicate (8 - (d :: ds).length) 48 ++ (d :: ds)).length : Nat) : Int)).toNat = 0
      rw [List.length_append, List.length_replicate]
      omega
/-- 0wd: the specs that are served -/
def FmtW (spec : Str) (w : Nat) : Prop := (spec = Str.ofString "06d" ∧ w = 6) ∨ (spec = Str.ofString "04d" ∧ w = 4) ∨ (spec = Str.ofString "03d" ∧ w = 3) ∨ (spec = Str.ofString "08d" ∧ w = 8)
def tFmt0 (w : Nat) (te : TE) : TE := fun σ H Q => te σ H fun x H1 => ∃ i : Int, x = .int i ∧ 0 ≤ i ∧ i.natAbs.log2 < 1920 ∧ Q (.str (zpad w i)) H1
theorem pe_fmt0 (w : Nat) {spec : Str} {e : Expr} {te : TE} {j : Nat} {p1 p2 pos : Pos} (he : PE X e te) (hs : FmtW spec w := by first | exact .inl ⟨rfl, rfl⟩ | exact .inr (.inl ⟨rfl, rfl⟩) | exact .inr (.inr (.inl ⟨rfl, rfl⟩)) | exact .inr (.inr (.inr ⟨rfl, rfl⟩))) :
    PE X (.FormattedValue e (-1) (some (.JoinedStr [.Constant (.str spec) j p1] p2)) pos) (tFmt0 w te) := by
  refine ⟨fun pins s σ H Q I h => ?_⟩
  refine wpAny_FormattedValue_spec (thn (he.run pins s σ H _ I h) fun v s1 hv => ?_)
  obtain ⟨x, H1, I1, r1, i, rfl, h0, hl, q⟩ := hv
  obtain ⟨t, rfl⟩ := r1
  refine wpAny_JoinedStr_one (Calls.Constant_str ⟨spec, _, rfl, ?_⟩)
  rcases hs with ⟨rfl, rfl⟩ | ⟨rfl, rfl⟩ | ⟨rfl, rfl⟩ | ⟨rfl, rfl⟩
  · exact PySem.W.KXf.field_int rfl (by decide) (by decide) (fmt0_meets_6 h0 hl) fun t' k => ⟨.str (zpad 6 i), H1, I1.tok _, ⟨t', rfl⟩, q⟩
  · exact PySem.W.KXf.field_int rfl (by decide) (by decide) (fmt0_meets_4 h0 hl) fun t' k => ⟨.str (zpad 4 i), H1, I1.tok _, ⟨t', rfl⟩, q⟩
  · exact PySem.W.KXf.field_int rfl (by decide) (by decide) (fmt0_meets_3 h0 hl) fun t' k => ⟨.str (zpad 3 i), H1, I1.tok _, ⟨t', rfl⟩, q⟩
  · exact PySem.W.KXf.field_int rfl (by decide) (by decide) (fmt0_meets_8 h0 hl) fun t' k => ⟨.str (zpad 8 i), H1, I1.tok _, ⟨t', rfl⟩, q⟩
end
end My

set_option Elab.async false
set_option linter.all false
set_option maxRecDepth 100000
set_option maxHeartbeats 400000
/-! ### readings, step by step -/
namespace My
open PySem PySem.Spec PyProof.Rows L2
abbrev St := L2.St
section
variable {K : PySem.W.Frag} {σ : St} {H : Hp} {Q : VK} {ta tb tc te : TE} {t u c : TT} {tr tr' : TA} {r r' : R2} {v x y z : V}
theorem x_var {i : Nat} (h : σ[i]? = some (some v)) (q : Q v H) : tVar i σ H Q := ⟨v, h, q⟩
theorem x_c (q : Q v H) : tC v σ H Q := q
theorem x_op (h : ta σ H fun x H1 => tb σ H1 fun y H2 => r x y H2 Q) : tOp r ta tb σ H Q := h
theorem x_un {r : V → Hp → VK → Prop} (h : ta σ H fun x H1 => r x H1 Q) : tUn r ta σ H Q := h
theorem x_tst {Q : Bool → Hp → Prop} (h : te σ H fun x H' => ∃ k, x = .bl k ∧ Q k H') : tTest te σ H Q := h
theorem x_bl {Q : Bool → Hp → Prop} {b : Bool} (h : Q b H) : ∃ k, V.bl b = .bl k ∧ Q k H := ⟨b, rfl, h⟩
theorem x_tru {Q : Bool → Hp → Prop} (h : ta σ H fun x H' => ∃ k, TruV K x H' k ∧ Q k H') : tTru1 K ta σ H Q := h
theorem x_truB {P : Bool → Prop} {b : Bool} (h : P b) : ∃ k, TruV K (.bl b) H k ∧ P k := ⟨b, rfl, h⟩
theorem x_truL {P : Bool → Prop} {p : Addr} {xs : List V} (hs : SqL K H p xs) (h : P (!xs.isEmpty)) : ∃ k, TruV K (.ref p) H k ∧ P k := ⟨_, .inl ⟨xs, hs, rfl⟩, h⟩
theorem x_truT {P : Bool → Prop} {p : Addr} {xs : List V} (hs : SqT K H p xs) (h : P (!xs.isEmpty)) : ∃ k, TruV K (.ref p) H k ∧ P k := ⟨_, .inr (.inl ⟨xs, hs, rfl⟩), h⟩
theorem x_truS {P : Bool → Prop} {s : Str} (hs : s.length ≤ sizeLine) (h : P ((s.length : Int) != 0)) : ∃ k, TruV K (.str s) H k ∧ P k := ⟨_, ⟨hs, rfl⟩, h⟩
theorem x_not {Q : Bool → Hp → Prop} (h : t σ H fun c H1 => Q (!c) H1) : tNot t σ H Q := h
theorem x_and {Q : Bool → Hp → Prop} (h : t σ H fun c H1 => if c = true then u σ H1 Q else Q false H1) : tAnd t u σ H Q := h
theorem x_or {Q : Bool → Hp → Prop} (h : t σ H fun c H1 => if c = true then Q true H1 else u σ H1 Q) : tOr t u σ H Q := h
theorem x_andV (h : ta σ H fun x H1 => ∃ c, x = .bl c ∧ if c = true then tb σ H1 Q else Q (.bl false) H1) : tAndV ta tb σ H Q := h
theorem x_orV (h : ta σ H fun x H1 => ∃ c, x = .bl c ∧ if c = true then Q (.bl true) H1 else tb σ H1 Q) : tOrV ta tb σ H Q := h
theorem x_notV (h : ta σ H fun x H1 => ∃ c, x = .bl c ∧ Q (.bl (!c)) H1) : tNotV ta σ H Q := h
theorem x_bl2 {b : Bool} {P : Bool → Prop} (h : P b) : ∃ k, V.bl b = .bl k ∧ P k := ⟨b, rfl, h⟩
theorem x_yes {Q : Bool → Hp → Prop} (h : Q true H) : tYes σ H Q := h
theorem x_if (h : c σ H fun b H1 => if b = true then ta σ H1 Q else tb σ H1 Q) : tIf c ta tb σ H Q := h
theorem x_nil {Q : List V → Hp → Prop} (q : Q [] H) : tNil σ H Q := q
theorem x_cons {Q : List V → Hp → Prop} (h : ta σ H fun x H1 => tr σ H1 fun xs H2 => Q (x :: xs) H2) : tCons ta tr σ H Q := h
theorem x_tup (h : tr σ H fun xs H1 => xs.length ≤ sizeLine ∧ ∀ p, H1 p = none → Q (.ref p) (upd H1 p (.tup xs))) : tTup tr σ H Q := h
theorem x_lst (h : tr σ H fun xs H1 => xs.length ≤ sizeLine ∧ ∀ p, H1 p = none → Q (.ref p) (upd H1 p (.lst xs))) : tLst tr σ H Q := h
theorem x_call {sp : Sp} {E : XK} (h : tr σ H fun vs H1 => sp vs H1 Q E) : tCall sp [] E tr σ H Q := by
  have e : (fun (vs : List V) (H1 : Hp) => sp (vs ++ []) H1 Q E) = fun vs H1 => sp vs H1 Q E := by funext vs H1; rw [List.append_nil]
  show tr σ H fun vs H1 => sp (vs ++ []) H1 Q E
  rw [e]
  exact h
theorem x_callK {sp : Sp} {gV : List V → List V → List V} {E : XK} (h : tr σ H fun vs H1 => tr' σ H1 fun zs H2 => sp (gV vs zs) H2 Q E) : tCallK sp gV E tr tr' σ H Q := h
theorem x_callK0 {sp : Sp} {gV : List V → List V → List V} {E : XK} (h : tr σ H fun zs H2 => sp (gV [] zs) H2 Q E) : tCallK0 sp gV E tr σ H Q := h
theorem x_cb {r : List V → Hp → VK → Prop} (h : tr σ H fun vs H1 => r vs H1 Q) : tCB r tr σ H Q := h
theorem x_bm {T : String} {r : V → List V → Hp → VK → Prop} (h : ta σ H fun x H1 => tyV K T x H1 ∧ tr σ H1 fun xs H2 => r x xs H2 Q) : tBM K T r ta tr σ H Q := h
theorem x_bm0 {T : String} {r : V → List V → Hp → VK → Prop} (h : ta σ H fun x H1 => tyV K T x H1 ∧ r x [] H1 Q) : tBM0 K T r ta σ H Q := h
theorem x_tyS {s : Str} {P : Prop} (h : P) : tyV K "str" (.str s) H ∧ P := ⟨rfl, h⟩
theorem x_tyL {p : Addr} {xs : List V} {P : Prop} (hs : SqL K H p xs) (h : P) : tyV K "list" (.ref p) H ∧ P := ⟨.inl ⟨rfl, xs, hs⟩, h⟩
theorem x_sl {r : V → Option Int → Option Int → Hp → VK → Prop} {tl th : TO} (h : te σ H fun x H1 => tl σ H1 fun l H2 => th σ H2 fun u H3 => r x l u H3 Q) : tSl r te tl th σ H Q := h
theorem x_nopart {Q : Option Int → Hp → Prop} (h : Q none H) : tNoPart σ H Q := h
theorem x_part {Q : Option Int → Hp → Prop} (h : te σ H fun x H1 => ∃ i, x = .int i ∧ Q (some i) H1) : tPart te σ H Q := h
theorem x_int {i : Int} {P : Int → Prop} (h : P i) : ∃ k, V.int i = .int k ∧ P k := ⟨i, rfl, h⟩
theorem x_str {s : Str} {P : Str → Prop} (h : P s) : ∃ k, V.str s = .str k ∧ P k := ⟨s, rfl, h⟩
theorem x_fmt (h : te σ H fun x H1 => (∃ y : Str, x = .str y ∧ y.length ≤ sizeLine ∧ Q (.str y) H1) ∨ ∃ i : Int, x = .int i ∧ i.natAbs.log2 < 1920 ∧ Q (.str (toString i)) H1) : tFmt te σ H Q := h
theorem x_fmtS {s : Str} {P : Int → Prop} (hs : s.length ≤ sizeLine) (h : Q (.str s) H) : (∃ y : Str, V.str s = .str y ∧ y.length ≤ sizeLine ∧ Q (.str y) H) ∨ ∃ i : Int, V.str s = .int i ∧ i.natAbs.log2 < 1920 ∧ Q (.str (toString i)) H := .inl ⟨s, rfl, hs, h⟩
theorem x_fmt0 {w : Nat} (h : te σ H fun x H1 => ∃ i : Int, x = .int i ∧ 0 ≤ i ∧ i.natAbs.log2 < 1920 ∧ Q (.str (zpad w i)) H1) : tFmt0 w te σ H Q := h
theorem x_fmtI {w : Nat} {i : Int} (h0 : 0 ≤ i) (hl : i.natAbs.log2 < 1920) (h : Q (.str (zpad w i)) H) : ∃ k : Int, V.int i = .int k ∧ 0 ≤ k ∧ k.natAbs.log2 < 1920 ∧ Q (.str (zpad w k)) H := ⟨i, rfl, h0, hl, h⟩
theorem x_js0 {acc : Str} {Q : Str → Hp → Prop} (h : Q acc H) : tJs [] acc σ H Q := h
theorem x_js {acc : Str} {Q : Str → Hp → Prop} {ts : List TE} (h : te σ H fun x H1 => ∃ y : Str, x = .str y ∧ (acc ++ y).length ≤ sizeLine ∧ tJs ts (acc ++ y) σ H1 Q) : tJs (te :: ts) acc σ H Q := h
theorem x_jsS {s acc : Str} {Q : Str → Hp → Prop} {ts : List TE} (hs : (acc ++ s).length ≤ sizeLine) (h : tJs ts (acc ++ s) σ H Q) : ∃ y : Str, V.str s = .str y ∧ (acc ++ y).length ≤ sizeLine ∧ tJs ts (acc ++ y) σ H Q := ⟨s, rfl, hs, h⟩
theorem x_chain (h : ta σ H fun x H1 => tb σ H1 fun y H2 => r x y H2 fun z H3 => ∃ k, z = .bl k ∧ (if k = true then tc σ H3 fun w' H4 => r' y w' H4 Q else Q (.bl false) H3)) : tChain r r' ta tb tc σ H Q := h
/-! leaves -/
theorem a_ii {i j : Int} (h : Q (.int (i + j)) H) : rADD K (.int i) (.int j) H Q := .inl ⟨i, j, rfl, rfl, h⟩
theorem a_ss {i j : Str} (hl : i.length + j.length ≤ sizeLine) (h : Q (.str (i ++ j)) H) : rADD K (.str i) (.str j) H Q := .inr (.inl ⟨i, j, rfl, rfl, hl, h⟩)
theorem a_ll {p q : Addr} {xs ys : List V} (hp : H p = some (.lst xs)) (hq : H q = some (.lst ys)) (hl : xs.length + ys.length ≤ sizeLine) (h : ∀ l, H l = none → Q (.ref l) (upd H l (.lst (xs ++ ys)))) : rADD K (.ref p) (.ref q) H Q :=
  .inr (.inr (.inl ⟨p, q, xs, ys, rfl, rfl, hp, hq, hl, h⟩))
theorem a_tt {p q : Addr} {xs ys : List V} (hp : SqT K H p xs) (hq : SqT K H q ys) (hl : xs.length + ys.length ≤ sizeLine) (h : (xs = [] → Q (.ref q) H) ∧ (xs ≠ [] → ys = [] → Q (.ref p) H) ∧ (xs ≠ [] → ys ≠ [] → ∀ l, H l = none → Q (.ref l) (upd H l (.tup (xs ++ ys))))) : rADD K (.ref p) (.ref q) H Q :=
  .inr (.inr (.inr ⟨p, q, xs, ys, rfl, rfl, hp, hq, hl, h⟩))
theorem s_ii {i j : Int} (h : Q (.int (i - j)) H) : rSUB (.int i) (.int j) H Q := ⟨i, j, rfl, rfl, h⟩
theorem m_ii {i j : Int} (hc : CMulA i j) (h : Q (.int (i * j)) H) : rMUL K (.int i) (.int j) H Q := .inl ⟨i, j, rfl, rfl, hc, h⟩
theorem m_si {s : Str} {k : Int} (h1 : -(2 ^ 63) ≤ k) (h2 : k < 2 ^ 63) (hl : s.length * k.toNat ≤ sizeLine) (h : Q (.str (repS s k)) H) : rMUL K (.str s) (.int k) H Q := .inr (.inl ⟨s, k, rfl, rfl, h1, h2, hl, h⟩)
theorem m_li {p : Addr} {xs : List V} {k : Int} (hp : H p = some (.lst xs)) (h1 : -(2 ^ 63) ≤ k) (h2 : k < 2 ^ 63) (hl : xs.length * k.toNat ≤ sizeLine) (h : ∀ l, H l = none → Q (.ref l) (upd H l (.lst (List.replicate k.toNat xs).flatten))) : rMUL K (.ref p) (.int k) H Q :=
  .inr (.inr ⟨p, k, xs, rfl, rfl, hp, h1, h2, hl, h⟩)
theorem md_ii {i j : Int} (hc : 0 < j) (h : Q (.int (i % j)) H) : rMOD (.int i) (.int j) H Q := ⟨i, j, rfl, rfl, hc, h⟩
theorem fd_ii {i j : Int} (hc : CDivW i j) (h : Q (.int (i / j)) H) : rFDIV (.int i) (.int j) H Q := ⟨i, j, rfl, rfl, hc, h⟩
theorem pw_ii {i j : Int} (hc : CPow i j) (h : Q (.int (i ^ j.toNat)) H) : rPOW (.int i) (.int j) H Q := ⟨i, j, rfl, rfl, hc, h⟩
theorem n_i {i : Int} (h : Q (.int (-i)) H) : rNEG (.int i) H Q := ⟨i, rfl, h⟩
theorem e_ii {i j : Int} (h : Q (.bl (decide (i = j))) H) : rEQ K (.int i) (.int j) H Q := .inl ⟨rfl, by rw [show decide (V.int i = V.int j) = decide (i = j) by simp]; exact h⟩
theorem e_ss {i j : Str} (h : Q (.bl (decide (i = j))) H) : rEQ K (.str i) (.str j) H Q := .inl ⟨rfl, by rw [show decide (V.str i = V.str j) = decide (i = j) by simp]; exact h⟩
theorem e_bb {i j : Bool} (h : Q (.bl (decide (i = j))) H) : rEQ K (.bl i) (.bl j) H Q := .inl ⟨rfl, by rw [show decide (V.bl i = V.bl j) = decide (i = j) by simp]; exact h⟩
theorem e_d {d e : PyData} (hd : Dp K H x d) (he : Dp K H y e) (h1 : SeqAt.shaped d = true) (h2 : SeqAt.shaped e = true) (h : Q (.bl (PyData.eqv d e)) H) : rEQ K x y H Q := .inr ⟨d, e, hd, he, h1, h2, h⟩
theorem ne_ii {i j : Int} (h : Q (.bl (!decide (i = j))) H) : rNE K (.int i) (.int j) H Q := .inl ⟨rfl, by rw [show decide (V.int i = V.int j) = decide (i = j) by simp]; exact h⟩
theorem ne_ss {i j : Str} (h : Q (.bl (!decide (i = j))) H) : rNE K (.str i) (.str j) H Q := .inl ⟨rfl, by rw [show decide (V.str i = V.str j) = decide (i = j) by simp]; exact h⟩
theorem ne_bb {i j : Bool} (h : Q (.bl (!decide (i = j))) H) : rNE K (.bl i) (.bl j) H Q := .inl ⟨rfl, by rw [show decide (V.bl i = V.bl j) = decide (i = j) by simp]; exact h⟩
theorem ne_d {d e : PyData} (hd : Dp K H x d) (he : Dp K H y e) (h1 : SeqAt.shaped d = true) (h2 : SeqAt.shaped e = true) (h : Q (.bl (!PyData.eqv d e)) H) : rNE K x y H Q := .inr ⟨d, e, hd, he, h1, h2, h⟩
theorem lt_ii {i j : Int} (h : Q (.bl (decide (i < j))) H) : rLT (.int i) (.int j) H Q := .inl ⟨i, j, rfl, rfl, h⟩
theorem lt_ss {i j : Str} (h : Q (.bl (decide (i.cps.toList < j.cps.toList))) H) : rLT (.str i) (.str j) H Q := .inr ⟨i, j, rfl, rfl, h⟩
theorem le_ii {i j : Int} (h : Q (.bl (decide (i ≤ j))) H) : rLE (.int i) (.int j) H Q := .inl ⟨i, j, rfl, rfl, h⟩
theorem gt_ii {i j : Int} (h : Q (.bl (decide (j < i))) H) : rGT (.int i) (.int j) H Q := .inl ⟨i, j, rfl, rfl, h⟩
theorem gt_ss {i j : Str} (h : Q (.bl (decide (j.cps.toList < i.cps.toList))) H) : rGT (.str i) (.str j) H Q := .inr ⟨i, j, rfl, rfl, h⟩
theorem ge_ii {i j : Int} (h : Q (.bl (decide (j ≤ i))) H) : rGE (.int i) (.int j) H Q := .inl ⟨i, j, rfl, rfl, h⟩
theorem is_N (h : Q (.bl (decide (x = .non))) H) : rIS K x .non H Q := .inl ⟨rfl, h⟩
theorem is_T {m n : String} (h : Q (.bl (decide (m = n))) H) : rIS K (.ty m) (.ty n) H Q := .inr (.inl ⟨m, n, rfl, rfl, h⟩)
theorem is_B {b : Bool} (h : Q (.bl (decide (x = .bl b))) H) : rIS K x (.bl b) H Q := .inr (.inr ⟨b, rfl, h⟩)
theorem isn_N (h : Q (.bl (!decide (x = .non))) H) : rISN K x .non H Q := .inl ⟨rfl, h⟩
theorem isn_T {m n : String} (h : Q (.bl (!decide (m = n))) H) : rISN K (.ty m) (.ty n) H Q := .inr (.inl ⟨m, n, rfl, rfl, h⟩)
theorem isn_B {b : Bool} (h : Q (.bl (!decide (x = .bl b))) H) : rISN K x (.bl b) H Q := .inr (.inr ⟨b, rfl, h⟩)
theorem in_s {c : Nat} {z : Str} (h : Q (.bl (decide (c ∈ z.cps.toList))) H) : rINU K (.str ⟨#[c]⟩) (.str z) H Q := .inl ⟨c, z, rfl, rfl, h⟩
theorem nin_s {c : Nat} {z : Str} (h : Q (.bl (!decide (c ∈ z.cps.toList))) H) : rNINU K (.str ⟨#[c]⟩) (.str z) H Q := .inl ⟨c, z, rfl, rfl, h⟩
theorem ix_L {p : Addr} {xs : List V} {i : Int} (hs : SqL K H p xs) (ha : atI xs i = some v) (h : Q v H) : rIX K (.ref p) (.int i) H Q := .inl ⟨p, xs, i, v, rfl, rfl, hs, ha, h⟩
theorem ix_T {p : Addr} {xs : List V} {i : Int} (hs : SqT K H p xs) (ha : atI xs i = some v) (h : Q v H) : rIX K (.ref p) (.int i) H Q := .inr (.inl ⟨p, xs, i, v, rfl, rfl, hs, ha, h⟩)
theorem ix_S {z : Str} {i : Int} {c : Nat} (hl : z.length ≤ sizeLine) (ha : atI z.cps.toList i = some c) (h : Q (.str ⟨#[c]⟩) H) : rIX K (.str z) (.int i) H Q := .inr (.inr ⟨z, i, c, rfl, rfl, hl, ha, h⟩)
theorem sl_S {z : Str} {lo hi : Option Int} (hl : z.length ≤ sizeLine) (h : Q (.str (cutS z lo hi)) H) : rSL K (.str z) lo hi H Q := .inl ⟨z, rfl, hl, h⟩
theorem sl_L {p : Addr} {xs : List V} {lo hi : Option Int} (hs : SqL K H p xs) (h : ∀ l, H l = none → Q (.ref l) (upd H l (.lst (cutV xs lo hi)))) : rSL K (.ref p) lo hi H Q := .inr (.inl ⟨p, xs, rfl, hs, h⟩)
theorem i_i {i : Int} (h : Q (.int i) H) : rINT [.int i] H Q := .inl (.inl ⟨i, rfl, h⟩)
theorem i_b {b : Bool} (h : Q (.int (if b then 1 else 0)) H) : rINT [.bl b] H Q := .inl (.inr ⟨b, rfl, h⟩)
theorem i_s {a : Str} {n : Int} (ha : PySem.intText? a = some n) (hl : a.length ≤ 640) (h : Q (.int n) H) : rINT [.str a] H Q := .inr ⟨a, n, rfl, ha, hl, h⟩
theorem st_i {i : Int} (hl : i.natAbs.log2 < 1920) (h : Q (.str (toString i)) H) : rSTR [.int i] H Q := ⟨i, rfl, hl, h⟩
theorem ln_s {z : Str} (hl : z.length ≤ sizeLine) (h : Q (.int z.length) H) : rLEN K [.str z] H Q := .inl ⟨z, rfl, hl, h⟩
theorem ln_l {p : Addr} {xs : List V} (hs : SqL K H p xs) (h : Q (.int xs.length) H) : rLEN K [.ref p] H Q := .inr ⟨p, xs, rfl, .inl hs, h⟩
theorem ln_t {p : Addr} {xs : List V} (hs : SqT K H p xs) (h : Q (.int xs.length) H) : rLEN K [.ref p] H Q := .inr ⟨p, xs, rfl, .inr hs, h⟩
theorem ab_i {i : Int} (h : Q (.int (if i < 0 then -i else i)) H) : rABS [.int i] H Q := ⟨i, rfl, h⟩
theorem mx_ii {i j : Int} (h : Q (.int (if j > i then j else i)) H) : rMAX2 [.int i, .int j] H Q := ⟨i, j, rfl, h⟩
theorem mn_ii {i j : Int} (h : Q (.int (if j < i then j else i)) H) : rMIN2 [.int i, .int j] H Q := ⟨i, j, rfl, h⟩
theorem ty_N (h : Q (.ty "NoneType") H) : rTyp K [.non] H Q := ⟨_, _, rfl, .non, h⟩
theorem ty_B {b : Bool} (h : Q (.ty "bool") H) : rTyp K [.bl b] H Q := ⟨_, _, rfl, .bl b, h⟩
theorem ty_I {i : Int} (h : Q (.ty "int") H) : rTyp K [.int i] H Q := ⟨_, _, rfl, .int i, h⟩
theorem ty_S {s : Str} (h : Q (.ty "str") H) : rTyp K [.str s] H Q := ⟨_, _, rfl, .str s, h⟩
theorem ty_L {p : Addr} {xs : List V} (hs : SqL K H p xs) (h : Q (.ty "list") H) : rTyp K [.ref p] H Q := ⟨_, _, rfl, .lst hs, h⟩
theorem ty_T {p : Addr} {xs : List V} (hs : SqT K H p xs) (h : Q (.ty "tuple") H) : rTyp K [.ref p] H Q := ⟨_, _, rfl, .tup hs, h⟩
theorem ma_s {s : Str} (h : Q (.bl (Txt.isascii s)) H) : rM_isascii (.str s) [] H Q := ⟨s, rfl, rfl, True.intro, h⟩
theorem mp_s {s : Str} (h : Q (.bl (Txt.isprintable s)) H) : rM_isprintable (.str s) [] H Q := ⟨s, rfl, rfl, True.intro, h⟩
theorem mdg_s {s : Str} (h : Q (.bl (Txt.isdigit s)) H) : rM_isdigit (.str s) [] H Q := ⟨s, rfl, rfl, True.intro, h⟩
theorem mf_s {s u : Str} (h : Q (.int (Txt.find s u)) H) : rM_find (.str s) [.str u] H Q := ⟨s, u, rfl, rfl, h⟩
theorem al_b {p : Addr} {bs : List Bool} (hs : SqL K H p (bs.map V.bl)) (h : Q (.bl (bs.all id)) H) : rAll K [.ref p] H Q := ⟨p, bs, rfl, hs, h⟩
/-! statements -/
variable {n b k : St → Hp → Prop} {rt : VK} {p q s w : TS} {g : TG} {D : Ends}
theorem s_seq (h : p ⟨q ⟨n, rt, b, k⟩, rt, b, k⟩ σ H) : tSeq p q ⟨n, rt, b, k⟩ σ H := h
theorem s_asg (h : te σ H fun x H1 => g x σ H1 n) : tAsg te g ⟨n, rt, b, k⟩ σ H := h
theorem s_gn {i : Nat} {N : St → Hp → Prop} (h : N (σ.set i (some v)) H) : gName i v σ H N := h
theorem s_if (h : c σ H fun d H1 => if d = true then p D σ H1 else q D σ H1) : tIfS c p q D σ H := h
theorem s_ret (h : te σ H rt) : tRet te ⟨n, rt, b, k⟩ σ H := h
theorem s_retN (h : rt .non H) : tRetN ⟨n, rt, b, k⟩ σ H := h
theorem s_next (h : n σ H) : tNext ⟨n, rt, b, k⟩ σ H := h
theorem s_brk (h : b σ H) : tBreak ⟨n, rt, b, k⟩ σ H := h
theorem s_cont (h : k σ H) : tCont ⟨n, rt, b, k⟩ σ H := h
theorem s_drop (h : te σ H fun _ H1 => n σ H1) : tDrop te ⟨n, rt, b, k⟩ σ H := h
theorem s_par {i j : Nat} (h : tr σ H fun vs H1 => ∃ v w, vs = [v, w] ∧ n ((σ.set i (some v)).set j (some w)) H1) : tPar i j tr ⟨n, rt, b, k⟩ σ H := h
theorem s_par3 {i j l : Nat} (h : tr σ H fun vs H1 => ∃ u v w, vs = [u, v, w] ∧ n (((σ.set i (some u)).set j (some v)).set l (some w)) H1) : tPar3 i j l tr ⟨n, rt, b, k⟩ σ H := h
theorem x_gsub {to ti : TE} {t : TSet} {N : St → Hp → Prop} (h : to σ H fun o H1 => ti σ H1 fun i H2 => t o i v H2 fun H3 => N σ H3) : gSub to ti t v σ H N := h
theorem st_L {p : Addr} {xs : List V} {i : Int} {N : Hp → Prop} (hp : H p = some (.lst xs)) (h0 : 0 ≤ i) (h1 : i < (xs.length : Int)) (h : N (upd H p (.lst (xs.set i.toNat v)))) : rSetL (.ref p) (.int i) v H N := by
  refine ⟨p, xs, i, i.toNat, rfl, rfl, hp, ?_, h⟩
  unfold ixN
  rw [if_pos h0]
  first | rw [if_pos h1] | simp [h1]
theorem pop_L {p : Addr} {x : V} {xs : List V} (hp : H p = some (.lst (x :: xs))) (h : Q x (upd H p (.lst xs))) : rPOP (.ref p) [.int 0] H Q := by
  refine ⟨p, x :: xs, 0, 0, x, rfl, rfl, hp, by decide, by decide, ?_, rfl, h⟩
  simp [seqIndex?]
theorem w_while {c : TT} {tb : TS} (W : Nat → St → Hp → Prop) (m0 : Nat) (h0 : W m0 σ H) (hs : ∀ m σ H, W m σ H → c σ H fun d H1 => if d = true then ∃ N : St → Hp → Prop, (∀ σ' H', N σ' H' → ∃ m', m' < m ∧ W m' σ' H') ∧ tb ⟨N, rt, n, N⟩ σ H1 else n σ H1) : tWhile c tb ⟨n, rt, b, k⟩ σ H :=
  ⟨W, ⟨m0, h0⟩, hs⟩
/-! loops -/
def LoopW (J : It) (g : TG) (tb : TS) (n : St → Hp → Prop) (rt : VK) (σ : St) (H : Hp) : Prop := ∃ W : Nat → Nat → St → Hp → Prop, (∃ m, W 0 m σ H) ∧ ∀ i m σ H, W i m σ H →
  (J.stop i H ∧ n σ H) ∨ (J.go i H ∧ ∃ N : St → Hp → Prop, (∀ σ' H', N σ' H' → ∃ m', m' < m ∧ W (i + 1) m' σ' H') ∧ ∀ x H', J.yld i H x H' → g x σ H' fun σ2 H2 => tb ⟨N, rt, n, N⟩ σ2 H2)
def ForR1 (g : TG) (tb : TS) (n : St → Hp → Prop) (rt : VK) (σ : St) (vs : List V) (H : Hp) : Prop := ∃ j : Int, vs = [.int j] ∧ -(2 ^ 62) ≤ j ∧ j < 2 ^ 62 ∧ LoopW (Itr 0 j.toNat) g tb n rt σ H
def ForR2 (g : TG) (tb : TS) (n : St → Hp → Prop) (rt : VK) (σ : St) (vs : List V) (H : Hp) : Prop := ∃ i j : Int, vs = [.int i, .int j] ∧ (-(2 ^ 62) ≤ i ∧ i < 2 ^ 62 ∧ -(2 ^ 62) ≤ j ∧ j < 2 ^ 62) ∧ LoopW (Itr i (j - i).toNat) g tb n rt σ H
def ForL (K : PySem.W.Frag) (g : TG) (tb : TS) (n : St → Hp → Prop) (rt : VK) (σ : St) (x : V) (H : Hp) : Prop := ∃ a, x = .ref a ∧ (∃ xs, SqL K H a xs) ∧ LoopW (Itl K a) g tb n rt σ H
def ForT (K : PySem.W.Frag) (g : TG) (tb : TS) (n : St → Hp → Prop) (rt : VK) (σ : St) (x : V) (H : Hp) : Prop := ∃ a, x = .ref a ∧ (∃ xs, SqT K H a xs) ∧ LoopW (Itt K a) g tb n rt σ H
def ForS (g : TG) (tb : TS) (n : St → Hp → Prop) (rt : VK) (σ : St) (x : V) (H : Hp) : Prop := ∃ z, x = .str z ∧ LoopW (Its z) g tb n rt σ H
theorem f_r1 (h : tr σ H fun vs H1 => ForR1 g p n rt σ vs H1) : tFor (iRng1 tr) g p ⟨n, rt, b, k⟩ σ H := h
theorem f_r2 (h : tr σ H fun vs H1 => ForR2 g p n rt σ vs H1) : tFor (iRng2 tr) g p ⟨n, rt, b, k⟩ σ H := h
theorem f_l (h : te σ H fun x H1 => ForL K g p n rt σ x H1) : tFor (iList K te) g p ⟨n, rt, b, k⟩ σ H := h
theorem f_t (h : te σ H fun x H1 => ForT K g p n rt σ x H1) : tFor (iTup K te) g p ⟨n, rt, b, k⟩ σ H := h
theorem f_s (h : te σ H fun x H1 => ForS g p n rt σ x H1) : tFor (iStr te) g p ⟨n, rt, b, k⟩ σ H := h
theorem loopR {lo : Int} {m : Nat} (Pv : Nat → St → Hp → Prop) (h0 : Pv 0 σ H) (hs : ∀ i σ H, i < m → Pv i σ H → g (.int (lo + i)) σ H fun σ2 H2 => p ⟨Pv (i + 1), rt, n, Pv (i + 1)⟩ σ2 H2) (hd : ∀ σ H, Pv m σ H → n σ H) : LoopW (Itr lo m) g p n rt σ H := for_range (D := ⟨n, rt, n, n⟩) Pv h0 hs hd
theorem loopL {a : Addr} {xs : List V} (Pv : Nat → St → Hp → Prop) (h0 : Pv 0 σ H) (hl : ∀ i σ H, i ≤ xs.length → Pv i σ H → SqL K H a xs) (hs : ∀ i x σ H, xs[i]? = some x → Pv i σ H → g x σ H fun σ2 H2 => p ⟨Pv (i + 1), rt, n, Pv (i + 1)⟩ σ2 H2) (hd : ∀ σ H, Pv xs.length σ H → n σ H) : LoopW (Itl K a) g p n rt σ H := for_list (D := ⟨n, rt, n, n⟩) Pv h0 hl hs hd
theorem loopT {a : Addr} {xs : List V} (Pv : Nat → St → Hp → Prop) (h0 : Pv 0 σ H) (hl : ∀ i σ H, i ≤ xs.length → Pv i σ H → SqT K H a xs) (hs : ∀ i x σ H, xs[i]? = some x → Pv i σ H → g x σ H fun σ2 H2 => p ⟨Pv (i + 1), rt, n, Pv (i + 1)⟩ σ2 H2) (hd : ∀ σ H, Pv xs.length σ H → n σ H) : LoopW (Itt K a) g p n rt σ H := for_tup (D := ⟨n, rt, n, n⟩) Pv h0 hl hs hd
theorem for1_mk {j : Int} (hj : -(2 ^ 62) ≤ j) (hj2 : j < 2 ^ 62) (Pv : Nat → St → Hp → Prop) (h0 : Pv 0 σ H) (hs : ∀ (i : Nat) σ H, i < j.toNat → Pv i σ H → g (.int (i : Int)) σ H fun σ2 H2 => p ⟨Pv (i + 1), rt, n, Pv (i + 1)⟩ σ2 H2) (hd : ∀ σ H, Pv j.toNat σ H → n σ H) : ForR1 g p n rt σ [.int j] H :=
  ⟨j, rfl, hj, hj2, loopR Pv h0 (fun i σ H hi hp => by rw [Int.zero_add]; exact hs i σ H hi hp) hd⟩
theorem for2_mk {lo j : Int} (hj : -(2 ^ 62) ≤ lo ∧ lo < 2 ^ 62 ∧ -(2 ^ 62) ≤ j ∧ j < 2 ^ 62) (Pv : Nat → St → Hp → Prop) (h0 : Pv 0 σ H) (hs : ∀ (i : Nat) σ H, i < (j - lo).toNat → Pv i σ H → g (.int (lo + (i : Int))) σ H fun σ2 H2 => p ⟨Pv (i + 1), rt, n, Pv (i + 1)⟩ σ2 H2) (hd : ∀ σ H, Pv (j - lo).toNat σ H → n σ H) : ForR2 g p n rt σ [.int lo, .int j] H :=
  ⟨lo, j, rfl, hj, loopR Pv h0 hs hd⟩
theorem forL_mk {a : Addr} {xs : List V} (hx : SqL K H a xs) (Pv : Nat → St → Hp → Prop) (h0 : Pv 0 σ H) (hl : ∀ i σ H, i ≤ xs.length → Pv i σ H → SqL K H a xs) (hs : ∀ i x σ H, xs[i]? = some x → Pv i σ H → g x σ H fun σ2 H2 => p ⟨Pv (i + 1), rt, n, Pv (i + 1)⟩ σ2 H2) (hd : ∀ σ H, Pv xs.length σ H → n σ H) : ForL K g p n rt σ (.ref a) H := ⟨a, rfl, ⟨xs, hx⟩, loopL Pv h0 hl hs hd⟩
theorem forT_mk {a : Addr} {xs : List V} (hx : SqT K H a xs) (Pv : Nat → St → Hp → Prop) (h0 : Pv 0 σ H) (hl : ∀ i σ H, i ≤ xs.length → Pv i σ H → SqT K H a xs) (hs : ∀ i x σ H, xs[i]? = some x → Pv i σ H → g x σ H fun σ2 H2 => p ⟨Pv (i + 1), rt, n, Pv (i + 1)⟩ σ2 H2) (hd : ∀ σ H, Pv xs.length σ H → n σ H) : ForT K g p n rt σ (.ref a) H := ⟨a, rfl, ⟨xs, hx⟩, loopT Pv h0 hl hs hd⟩
/-! comprehensions -/
def LcW (J : It) (g : TG) (tt : TT) (te : TE) (vs : List Nat) (σ : St) (Q : VK) (H1 : Hp) : Prop := ∀ D, H1 D = none → ∃ W : Nat → Nat → Hp → Prop, (∃ m, W 0 m (upd H1 D (.lst []))) ∧ ∀ i m H, W i m H →
  (J.stop i H ∧ Q (.ref D) H) ∨ (J.go i H ∧ ∃ Nx : Hp → Prop, (∀ H', Nx H' → ∃ m', m' < m ∧ W (i + 1) m' H') ∧ ∀ x H', J.yld i H x H' → g x (wipe σ vs) H' fun σ2 H2 => wipe σ2 vs = wipe σ vs ∧ tt σ2 H2 fun b H3 =>
    if b = true then te σ2 H3 fun y H4 => ∃ acc, H4 D = some (.lst acc) ∧ acc.length < sizeLine ∧ Nx (upd H4 D (.lst (acc ++ [y]))) else Nx H3)
def LcR1 (g : TG) (tt : TT) (te : TE) (ws : List Nat) (σ : St) (Q : VK) (vs : List V) (H : Hp) : Prop := ∃ j : Int, vs = [.int j] ∧ -(2 ^ 62) ≤ j ∧ j < 2 ^ 62 ∧ LcW (Itr 0 j.toNat) g tt te ws σ Q H
def LcR2 (g : TG) (tt : TT) (te : TE) (ws : List Nat) (σ : St) (Q : VK) (vs : List V) (H : Hp) : Prop := ∃ i j : Int, vs = [.int i, .int j] ∧ (-(2 ^ 62) ≤ i ∧ i < 2 ^ 62 ∧ -(2 ^ 62) ≤ j ∧ j < 2 ^ 62) ∧ LcW (Itr i (j - i).toNat) g tt te ws σ Q H
def LcL (K : PySem.W.Frag) (g : TG) (tt : TT) (te : TE) (ws : List Nat) (σ : St) (Q : VK) (x : V) (H : Hp) : Prop := ∃ a, x = .ref a ∧ (∃ xs, SqL K H a xs) ∧ LcW (Itl K a) g tt te ws σ Q H
def LcT (K : PySem.W.Frag) (g : TG) (tt : TT) (te : TE) (ws : List Nat) (σ : St) (Q : VK) (x : V) (H : Hp) : Prop := ∃ a, x = .ref a ∧ (∃ xs, SqT K H a xs) ∧ LcW (Itt K a) g tt te ws σ Q H
def LcS (g : TG) (tt : TT) (te : TE) (ws : List Nat) (σ : St) (Q : VK) (x : V) (H : Hp) : Prop := ∃ z, x = .str z ∧ LcW (Its z) g tt te ws σ Q H
variable {ws : List Nat}
theorem c_r1 (h : tr σ H fun vs H1 => LcR1 g t te ws σ Q vs H1) : tLc (iRng1 tr) g t te ws σ H Q := h
theorem c_r2 (h : tr σ H fun vs H1 => LcR2 g t te ws σ Q vs H1) : tLc (iRng2 tr) g t te ws σ H Q := h
theorem c_l (h : ta σ H fun x H1 => LcL K g t te ws σ Q x H1) : tLc (iList K ta) g t te ws σ H Q := h
theorem c_t (h : ta σ H fun x H1 => LcT K g t te ws σ Q x H1) : tLc (iTup K ta) g t te ws σ H Q := h
theorem c_s (h : ta σ H fun x H1 => LcS g t te ws σ Q x H1) : tLc (iStr ta) g t te ws σ H Q := h
theorem lcR1_mk {j : Int} (hj : -(2 ^ 62) ≤ j) (hj2 : j < 2 ^ 62) (Pv : Addr → Nat → Hp → Prop) (h0 : ∀ D, H D = none → Pv D 0 (upd H D (.lst [])))
    (hs : ∀ D (i : Nat) H', H D = none → i < j.toNat → Pv D i H' → g (.int (i : Int)) (wipe σ ws) H' fun σ2 H2 => wipe σ2 ws = wipe σ ws ∧ t σ2 H2 fun b H3 => if b = true then te σ2 H3 fun y H4 => ∃ acc, H4 D = some (.lst acc) ∧ acc.length < sizeLine ∧ Pv D (i + 1) (upd H4 D (.lst (acc ++ [y]))) else Pv D (i + 1) H3)
    (hd : ∀ D H', H D = none → Pv D j.toNat H' → Q (.ref D) H') : LcR1 g t te ws σ Q [.int j] H :=
  ⟨j, rfl, hj, hj2, fun D hD => lc_range (lo := 0) (n := j.toNat) (Pv D) (h0 D hD) (fun i H hi hp => by rw [Int.zero_add]; exact hs D i H hD hi hp) (fun H' hp => hd D H' hD hp)⟩
theorem lcR2_mk {lo j : Int} (hj : -(2 ^ 62) ≤ lo ∧ lo < 2 ^ 62 ∧ -(2 ^ 62) ≤ j ∧ j < 2 ^ 62) (Pv : Addr → Nat → Hp → Prop) (h0 : ∀ D, H D = none → Pv D 0 (upd H D (.lst [])))
    (hs : ∀ D (i : Nat) H', H D = none → i < (j - lo).toNat → Pv D i H' → g (.int (lo + (i : Int))) (wipe σ ws) H' fun σ2 H2 => wipe σ2 ws = wipe σ ws ∧ t σ2 H2 fun b H3 => if b = true then te σ2 H3 fun y H4 => ∃ acc, H4 D = some (.lst acc) ∧ acc.length < sizeLine ∧ Pv D (i + 1) (upd H4 D (.lst (acc ++ [y]))) else Pv D (i + 1) H3)
    (hd : ∀ D H', H D = none → Pv D (j - lo).toNat H' → Q (.ref D) H') : LcR2 g t te ws σ Q [.int lo, .int j] H :=
  ⟨lo, j, rfl, hj, fun D hD => lc_range (lo := lo) (n := (j - lo).toNat) (Pv D) (h0 D hD) (fun i H hi hp => hs D i H hD hi hp) (fun H' hp => hd D H' hD hp)⟩
theorem lcL_mk {a : Addr} {xs : List V} (hx : SqL K H a xs) (Pv : Addr → Nat → Hp → Prop) (h0 : ∀ D, H D = none → Pv D 0 (upd H D (.lst []))) (hl : ∀ D i H', H D = none → i ≤ xs.length → Pv D i H' → SqL K H' a xs)
    (hs : ∀ D i x H', H D = none → xs[i]? = some x → Pv D i H' → g x (wipe σ ws) H' fun σ2 H2 => wipe σ2 ws = wipe σ ws ∧ t σ2 H2 fun b H3 => if b = true then te σ2 H3 fun y H4 => ∃ acc, H4 D = some (.lst acc) ∧ acc.length < sizeLine ∧ Pv D (i + 1) (upd H4 D (.lst (acc ++ [y]))) else Pv D (i + 1) H3)
    (hd : ∀ D H', H D = none → Pv D xs.length H' → Q (.ref D) H') : LcL K g t te ws σ Q (.ref a) H :=
  ⟨a, rfl, ⟨xs, hx⟩, fun D hD => lc_list (xs := xs) (Pv D) (h0 D hD) (fun i H hi hp => hl D i H hD hi hp) (fun i x H hi hp => hs D i x H hD hi hp) (fun H' hp => hd D H' hD hp)⟩
theorem lcT_mk {a : Addr} {xs : List V} (hx : SqT K H a xs) (Pv : Addr → Nat → Hp → Prop) (h0 : ∀ D, H D = none → Pv D 0 (upd H D (.lst []))) (hl : ∀ D i H', H D = none → i ≤ xs.length → Pv D i H' → SqT K H' a xs)
    (hs : ∀ D i x H', H D = none → xs[i]? = some x → Pv D i H' → g x (wipe σ ws) H' fun σ2 H2 => wipe σ2 ws = wipe σ ws ∧ t σ2 H2 fun b H3 => if b = true then te σ2 H3 fun y H4 => ∃ acc, H4 D = some (.lst acc) ∧ acc.length < sizeLine ∧ Pv D (i + 1) (upd H4 D (.lst (acc ++ [y]))) else Pv D (i + 1) H3)
    (hd : ∀ D H', H D = none → Pv D xs.length H' → Q (.ref D) H') : LcT K g t te ws σ Q (.ref a) H :=
  ⟨a, rfl, ⟨xs, hx⟩, fun D hD => lc_tup (xs := xs) (Pv D) (h0 D hD) (fun i H hi hp => hl D i H hD hi hp) (fun i x H hi hp => hs D i x H hD hi hp) (fun H' hp => hd D H' hD hp)⟩
theorem s_cut (M : St → Hp → Prop) (h : p ⟨M, rt, b, k⟩ σ H) (hq : ∀ σ' H', M σ' H' → q ⟨n, rt, b, k⟩ σ' H') : Evl.tCut p q ⟨n, rt, b, k⟩ σ H := ⟨M, h, hq⟩
theorem s_p2 {P : V → V → Prop} (h : P x y) : ∃ v w, [x, y] = [v, w] ∧ P v w := ⟨x, y, rfl, h⟩
theorem s_p3 {P : V → V → V → Prop} (h : P x y z) : ∃ u v w, [x, y, z] = [u, v, w] ∧ P u v w := ⟨x, y, z, rfl, h⟩
theorem iteTd {p : Prop} [Decidable p] {A B : Prop} (h : p) (q : A) : if decide p = true then A else B := by
  rw [decide_eq_true h]
  exact iteT q
theorem iteFd {p : Prop} [Decidable p] {A B : Prop} (h : ¬ p) (q : B) : if decide p = true then A else B := by
  rw [decide_eq_false h]
  exact iteF q
theorem iteNt {A B : Prop} (q : B) : if (!true) = true then A else B := iteF q
theorem iteNf {A B : Prop} (q : A) : if (!false) = true then A else B := iteT q
theorem iteNd {p : Prop} [Decidable p] {A B : Prop} (h : p) (q : B) : if (!decide p) = true then A else B := by
  rw [decide_eq_true h]
  exact iteF q
theorem iteNdF {p : Prop} [Decidable p] {A B : Prop} (h : ¬ p) (q : A) : if (!decide p) = true then A else B := by
  rw [decide_eq_false h]
  exact iteT q
theorem ite2' {c : Bool} {A B : Prop} (h1 : c = true → A) (h2 : c = false → B) : if c = true then A else B := by
  cases c with
  | true => exact h1 rfl
  | false => exact h2 rfl
end
end My

set_option Elab.async false
set_option linter.all false
set_option maxRecDepth 100000
set_option maxHeartbeats 400000
/-! ### texts as lists of codes; heaps -/
namespace My
open PySem PySem.Spec PyProof.Rows L2
abbrev S (l : List Nat) : Str := SX.S l
theorem S_cps (l : List Nat) : (S l).cps.toList = l := rfl
theorem S_len (l : List Nat) : (S l).length = l.length := SX.S_len l
theorem S_eta (z : Str) : z = S z.cps.toList := by
  rcases z with ⟨⟨l⟩⟩
  rfl
theorem S_app (a b : List Nat) : S a ++ S b = S (a ++ b) := by
  show (⟨a.toArray ++ b.toArray⟩ : Str) = ⟨(a ++ b).toArray⟩
  simp
theorem S_inj {a b : List Nat} (h : S a = S b) : a = b := congrArg (fun z : Str => z.cps.toList) h
theorem S_eq (a b : List Nat) : decide (S a = S b) = decide (a = b) := by
  by_cases h : a = b
  · subst h; simp
  · have h2 : ¬ S a = S b := fun e => h (S_inj e)
    rw [decide_eq_false h, decide_eq_false h2]
theorem S_one (c : Nat) : (⟨#[c]⟩ : Str) = S [c] := rfl
/-! slices -/
theorem cut_from (l : List Nat) (a : Nat) : cutS (S l) (some (a : Int)) none = S (l.drop a) := by
  unfold cutS
  rw [S_len, HT.sIx_nat, HT.sIx_none, S_cps]
  apply congrArg S
  rcases Nat.le_total a l.length with h | h
  · rw [Nat.min_eq_left h]
    exact List.take_of_length_le (by rw [List.length_drop]; exact Nat.le_refl _)
  · rw [Nat.min_eq_right h, List.drop_eq_nil_of_le h]
    simp
theorem cut_to (l : List Nat) (b : Nat) : cutS (S l) none (some (b : Int)) = S (l.take b) := by
  unfold cutS
  rw [S_len, HT.sIx_nat, HT.sIx_none, S_cps]
  apply congrArg S
  rw [List.drop_zero, Nat.sub_zero]
  rcases Nat.le_total b l.length with h | h
  · rw [Nat.min_eq_left h]
  · rw [Nat.min_eq_right h, List.take_of_length_le (Nat.le_refl _), List.take_of_length_le h]
theorem cut_mid (l : List Nat) (a b : Nat) : cutS (S l) (some (a : Int)) (some (b : Int)) = S ((l.take b).drop a) := by
  unfold cutS
  rw [S_len, HT.sIx_nat, HT.sIx_nat, S_cps]
  apply congrArg S
  rw [List.drop_take]
  rcases Nat.le_total a l.length with h | h
  · rw [Nat.min_eq_left h]
    rcases Nat.le_total b l.length with h2 | h2
    · rw [Nat.min_eq_left h2]
    · rw [Nat.min_eq_right h2, List.take_of_length_le (by rw [List.length_drop]; exact Nat.le_refl _), List.take_of_length_le (by rw [List.length_drop]; omega)]
  · rw [Nat.min_eq_right h, List.drop_eq_nil_of_le h]
    simp
theorem cut_fromI (l : List Nat) {a : Int} (h : 0 ≤ a) : cutS (S l) (some a) none = S (l.drop a.toNat) := by
  have e := cut_from l a.toNat
  rwa [Int.toNat_of_nonneg h] at e
theorem cut_toI (l : List Nat) {a : Int} (h : 0 ≤ a) : cutS (S l) none (some a) = S (l.take a.toNat) := by
  have e := cut_to l a.toNat
  rwa [Int.toNat_of_nonneg h] at e
theorem cut_midI (l : List Nat) {a b : Int} (h : 0 ≤ a) (h2 : 0 ≤ b) : cutS (S l) (some a) (some b) = S ((l.take b.toNat).drop a.toNat) := by
  have e := cut_mid l a.toNat b.toNat
  rwa [Int.toNat_of_nonneg h, Int.toNat_of_nonneg h2] at e
theorem repS_S (l : List Nat) (k : Int) : repS (S l) k = S (List.replicate k.toNat l).flatten := rfl
theorem join_S (ys : List (List Nat)) : Txt.join (S []) (ys.map S) = S ys.flatten := by
  rw [SX.join_S]
  apply congrArg S
  induction ys with
  | nil => rfl
  | cons y ys ih =>
    cases ys with
    | nil => simp [TL.joinL]
    | cons z zs =>
      have e : TL.joinL [] (y :: z :: zs) = y ++ ([] ++ TL.joinL [] (z :: zs)) := by first | rfl | simp [TL.joinL]
      rw [e, ih]
      rfl
/-! an item at a place -/
theorem at_nat {α : Type} {xs : List α} {i : Int} {v : α} (h0 : 0 ≤ i) (h : xs[i.toNat]? = some v) : atI xs i = some v := by
  have e := atI_nat h
  rwa [Int.toNat_of_nonneg h0] at e
theorem at_in {α : Type} {xs : List α} {i : Int} (h0 : 0 ≤ i) (h : i < (xs.length : Int)) : atI xs i = some (xs[i.toNat]'(by omega)) := at_nat h0 (List.getElem?_eq_getElem (by omega))
/-! leaves over S -/
section
variable {K : PySem.W.Frag} {H : Hp} {Q : VK} {l m : List Nat} {a b : Int}
theorem big_line {n : Nat} (h : n ≤ 1000000) : n ≤ sizeLine := Nat.le_trans h (by decide)
theorem sl_to (ha : 0 ≤ a) (hl : l.length ≤ 1000000) (q : Q (.str (S (l.take a.toNat))) H) : rSL K (.str (S l)) none (some a) H Q := sl_S (by rw [S_len]; exact big_line hl) (by rw [cut_toI l ha]; exact q)
theorem sl_from (ha : 0 ≤ a) (hl : l.length ≤ 1000000) (q : Q (.str (S (l.drop a.toNat))) H) : rSL K (.str (S l)) (some a) none H Q := sl_S (by rw [S_len]; exact big_line hl) (by rw [cut_fromI l ha]; exact q)
theorem sl_mid (ha : 0 ≤ a) (hb : 0 ≤ b) (hl : l.length ≤ 1000000) (q : Q (.str (S ((l.take b.toNat).drop a.toNat))) H) : rSL K (.str (S l)) (some a) (some b) H Q := sl_S (by rw [S_len]; exact big_line hl) (by rw [cut_midI l ha hb]; exact q)
theorem a_SS (hl : l.length + m.length ≤ 1000000) (q : Q (.str (S (l ++ m))) H) : rADD K (.str (S l)) (.str (S m)) H Q := a_ss (by rw [S_len, S_len]; exact big_line hl) (by rw [S_app]; exact q)
theorem ln_S (hl : l.length ≤ 1000000) (q : Q (.int l.length) H) : rLEN K [.str (S l)] H Q := ln_s (by rw [S_len]; exact big_line hl) (by rw [S_len]; exact q)
theorem ix_SS (h0 : 0 ≤ a) (h1 : a < (l.length : Int)) (hl : l.length ≤ 1000000) (q : ∀ c, l[a.toNat]? = some c → Q (.str (S [c])) H) : rIX K (.str (S l)) (.int a) H Q :=
  ix_S (by rw [S_len]; exact big_line hl) (at_in h0 h1) (q _ (List.getElem?_eq_getElem (by omega)))
theorem e_SS (q : Q (.bl (decide (l = m))) H) : rEQ K (.str (S l)) (.str (S m)) H Q := e_ss (by rw [S_eq]; exact q)
theorem ne_SS (q : Q (.bl (!decide (l = m))) H) : rNE K (.str (S l)) (.str (S m)) H Q := ne_ss (by rw [S_eq]; exact q)
theorem m_SI (h1 : a < 2 ^ 40) (h0 : 0 ≤ a) (hl : l.length * a.toNat ≤ 1000000) (q : Q (.str (S (List.replicate a.toNat l).flatten)) H) : rMUL K (.str (S l)) (.int a) H Q := m_si (by omega) (by omega) (by rw [S_len]; exact big_line hl) q
theorem jn_0 {p : Addr} {ys : List (List Nat)} (hp : SqL K H p ((ys.map S).map V.str)) (hl : ys.flatten.length ≤ 1000000) (q : Q (.str (S ys.flatten)) H) : rJoin K (.str (S [])) [.ref p] H Q := by
  refine ⟨S [], p, ys.map S, rfl, rfl, .inl hp, ?_, by rw [join_S]; exact q⟩
  have e : ((ys.map S).map (·.length)).sum = ys.flatten.length := by
    rw [List.length_flatten, List.map_map]
    apply congrArg List.sum
    exact List.map_congr_left fun l _ => S_len l
  rw [e, S_len]
  exact Nat.le_trans (by simpa using hl) (by decide)
end
/-! printing ASCII -/
def isT (l : List Nat) : Bool := l.all fun c => decide (32 ≤ c) && decide (c ≤ 126)
theorem printable_lt {c : Nat} (h : c < 128) : Unicode.isPrintable c = (decide (32 ≤ c) && decide (c ≤ 126)) := by
  have h2 : ∀ c : _root_.Fin 128, Unicode.isPrintable c.val = (decide (32 ≤ c.val) && decide (c.val ≤ 126)) := by decide +kernel
  exact h2 ⟨c, h⟩
theorem digit_lt {c : Nat} (h : c < 128) : Unicode.isDigit c = (decide (48 ≤ c) && decide (c ≤ 57)) := by
  have h2 : ∀ c : _root_.Fin 128, Unicode.isDigit c.val = (decide (48 ≤ c.val) && decide (c.val ≤ 57)) := by decide +kernel
  exact h2 ⟨c, h⟩
theorem is_text_eq (l : List Nat) : (Txt.isascii (S l) && Txt.isprintable (S l)) = isT l := by
  unfold Txt.isascii Txt.isprintable isT
  rw [← Array.all_toList, ← Array.all_toList, S_cps]
  induction l with
  | nil => rfl
  | cons c l ih =>
    simp only [List.all_cons]
    rw [← ih]
    by_cases h : c < 128
    · rw [printable_lt h, decide_eq_true h]
      cases (decide (32 ≤ c) && decide (c ≤ 126)) <;> cases (l.all fun x => decide (x < 128)) <;> cases (l.all Unicode.isPrintable) <;> rfl
    · rw [decide_eq_false h]
      have h2 : (decide (32 ≤ c) && decide (c ≤ 126)) = false := by
        rw [decide_eq_false (show ¬ c ≤ 126 by omega), Bool.and_false]
      rw [h2]
      rfl
def isD (l : List Nat) : Bool := l.all fun c => decide (48 ≤ c) && decide (c ≤ 57)
theorem isT_mem {l : List Nat} (h : isT l = true) {c : Nat} (hc : c ∈ l) : 32 ≤ c ∧ c ≤ 126 := by
  have z := List.all_eq_true.mp h c hc
  rw [Bool.and_eq_true, decide_eq_true_eq, decide_eq_true_eq] at z
  exact z
theorem isT_of {l : List Nat} (h : ∀ c ∈ l, 32 ≤ c ∧ c ≤ 126) : isT l = true := List.all_eq_true.mpr fun c hc => by
  rw [Bool.and_eq_true, decide_eq_true_eq, decide_eq_true_eq]
  exact h c hc
theorem isT_app {a b : List Nat} : isT (a ++ b) = (isT a && isT b) := List.all_append
theorem isT_take {a : List Nat} (n : Nat) (h : isT a = true) : isT (a.take n) = true := isT_of fun _ hc => isT_mem h (List.mem_of_mem_take hc)
theorem isT_drop {a : List Nat} (n : Nat) (h : isT a = true) : isT (a.drop n) = true := isT_of fun _ hc => isT_mem h (List.mem_of_mem_drop hc)
theorem isdigit_eq {l : List Nat} (h : isT l = true) : Txt.isdigit (S l) = (decide (l ≠ []) && isD l) := by
  unfold Txt.isdigit isD
  rw [← Array.all_toList, S_cps, S_len]
  have e : l.all Unicode.isDigit = l.all fun c => decide (48 ≤ c) && decide (c ≤ 57) := by
    rw [Bool.eq_iff_iff, List.all_eq_true, List.all_eq_true]
    constructor
    · intro z c hc
      rw [← digit_lt (by have := isT_mem h hc; omega)]
      exact z c hc
    · intro z c hc
      rw [digit_lt (by have := isT_mem h hc; omega)]
      exact z c hc
  rw [e]
  cases l with
  | nil => rfl
  | cons c l => simp
/-! lists of texts, of numbers -/
def TxtAll (n : Nat) (xs : List V) : Prop := ∀ x ∈ xs, ∃ l : List Nat, l.length ≤ n ∧ isT l = true ∧ x = V.str (S l)
theorem txt_nil {n : Nat} : TxtAll n [] := fun _ h => by cases h
theorem txt_cons {n : Nat} {l : List Nat} {xs : List V} (h1 : l.length ≤ n) (h2 : isT l = true) (h : TxtAll n xs) : TxtAll n (.str (S l) :: xs) := fun x hx => by
  rcases List.mem_cons.mp hx with rfl | hx
  · exact ⟨l, h1, h2, rfl⟩
  · exact h x hx
theorem txt_app {n : Nat} {xs ys : List V} (h1 : TxtAll n xs) (h2 : TxtAll n ys) : TxtAll n (xs ++ ys) := fun x hx => (List.mem_append.mp hx).elim (h1 x) (h2 x)
theorem ix_txt {K : PySem.W.Frag} {H : Hp} {Q : VK} {p : Addr} {zs : List V} {n : Nat} {i : Int} (hp : SqL K H p zs) (ha : TxtAll n zs) (h0 : 0 ≤ i) (h1 : i < (zs.length : Int)) (q : ∀ l : List Nat, l.length ≤ n → isT l = true → Q (.str (S l)) H) : rIX K (.ref p) (.int i) H Q := by
  refine ix_L hp (at_in h0 h1) ?_
  have hi : i.toNat < zs.length := by omega
  obtain ⟨l, a, b, e⟩ := ha zs[i.toNat] (List.getElem_mem hi)
  rw [e]
  exact q l a b
def IntAll (n : Nat) (xs : List V) : Prop := ∀ x ∈ xs, ∃ z : Nat, z < n ∧ x = V.int z
theorem int_nil {n : Nat} : IntAll n [] := fun _ h => by cases h
theorem int_cons {n : Nat} {i : Int} {xs : List V} (h0 : 0 ≤ i) (h1 : i < (n : Int)) (h : IntAll n xs) : IntAll n (.int i :: xs) := fun x hx => by
  rcases List.mem_cons.mp hx with rfl | hx
  · exact ⟨i.toNat, by omega, by rw [Int.toNat_of_nonneg h0]⟩
  · exact h x hx
theorem ix_int {K : PySem.W.Frag} {H : Hp} {Q : VK} {p : Addr} {zs : List V} {n : Nat} {i : Int} (hp : SqL K H p zs) (ha : IntAll n zs) (h0 : 0 ≤ i) (h1 : i < (zs.length : Int)) (q : ∀ z : Nat, z < n → Q (.int z) H) : rIX K (.ref p) (.int i) H Q := by
  refine ix_L hp (at_in h0 h1) ?_
  have hi : i.toNat < zs.length := by omega
  obtain ⟨z, a, e⟩ := ha zs[i.toNat] (List.getElem_mem hi)
  rw [e]
  exact q z a
def IntP (F : Nat → Prop) (xs : List V) : Prop := ∀ x ∈ xs, ∃ z : Nat, F z ∧ x = V.int z
theorem intp_nil {F : Nat → Prop} : IntP F [] := fun _ h => by cases h
theorem intp_cons {F : Nat → Prop} {i : Int} {xs : List V} (h0 : 0 ≤ i) (h1 : F i.toNat) (h : IntP F xs) : IntP F (.int i :: xs) := fun x hx => by
  rcases List.mem_cons.mp hx with rfl | hx
  · exact ⟨i.toNat, h1, by rw [Int.toNat_of_nonneg h0]⟩
  · exact h x hx
theorem ix_intp {K : PySem.W.Frag} {H : Hp} {Q : VK} {p : Addr} {zs : List V} {F : Nat → Prop} {i : Int} (hp : SqL K H p zs) (ha : IntP F zs) (h0 : 0 ≤ i) (h1 : i < (zs.length : Int)) (q : ∀ z : Nat, F z → Q (.int z) H) : rIX K (.ref p) (.int i) H Q := by
  refine ix_L hp (at_in h0 h1) ?_
  have hi : i.toNat < zs.length := by omega
  obtain ⟨z, a, e⟩ := ha zs[i.toNat] (List.getElem_mem hi)
  rw [e]
  exact q z a
/-! heaps -/
theorem same_upd {H : Hp} {p : Addr} {o : HO} (h : H p = none) : Same H (upd H p o) := fun b x e => by
  rw [upd_ne (ne_of_none e h)]
  exact e
theorem same_mut {R H : Hp} {p : Addr} {o : HO} (e : Same R H) (h : R p = none) : Same R (upd H p o) := fun a u ha => by
  rw [upd_ne (ne_of_none ha h)]
  exact e a u ha
theorem same_sqt {K : PySem.W.Frag} {H H' : Hp} {a : Addr} {xs : List V} (e : Same H H') (h : SqT K H a xs) : SqT K H' a xs := by
  rcases h with (h | ⟨o, h⟩) | h
  · exact .inl (.inl (e _ _ h))
  · exact .inl (.inr ⟨o, e _ _ h⟩)
  · exact .inr h
theorem same_new {R H : Hp} {p : Addr} {o : HO} (e : Same R H) (h : H p = none) : Same R (upd H p o) := e.trans (same_upd h)
theorem lst_of {K : PySem.W.Frag} {H : Hp} {a : Addr} {xs : List V} (h : H a = some (.lst xs)) : SqL K H a xs := .inl (.inl h)
theorem tup_of {K : PySem.W.Frag} {H : Hp} {a : Addr} {xs : List V} (h : H a = some (.tup xs)) : SqT K H a xs := .inl (.inl h)
mutual
theorem dp_mono {K : PySem.W.Frag} {H H' : Hp} (e : Same H H') : ∀ (d : PyData) (v : V), Dp K H v d → Dp K H' v d
  | _, _, .non => .non
  | _, _, .bl b => .bl b
  | _, _, .int i => .int i
  | _, _, .str x => .str x
  | .list ds, _, .lst h a => .lst (e.seq h) (dpAll_mono e ds _ a)
  | .tuple ds, _, .tup h a => .tup (same_sqt e h) (dpAll_mono e ds _ a)
theorem dpAll_mono {K : PySem.W.Frag} {H H' : Hp} (e : Same H H') : ∀ (ds : List PyData) (vs : List V), DpAll K H vs ds → DpAll K H' vs ds
  | _, _, .nil => .nil
  | d :: ds, v :: vs, .cons h t => .cons (dp_mono e d v h) (dpAll_mono e ds vs t)
end
theorem ne_new {H : Hp} {a p : Addr} {o : HO} (h : H a = some o) (hp : H p = none) : p ≠ a := fun e => by
  subst e
  rw [hp] at h
  cases h
end My

set_option Elab.async false
set_option linter.all false
set_option maxRecDepth 100000
set_option maxHeartbeats 400000
/-! ### data; isinstance; a comprehension over a range with a step -/
namespace My
open PySem PySem.Spec PyProof.Rows L2
def tyName : PyData → String
  | .none => "NoneType"
  | .bool _ => "bool"
  | .int _ => "int"
  | .str _ => "str"
  | .list _ => "list"
  | .tuple _ => "tuple"
  | .dict _ => "dict"
theorem tyx_l {K : PySem.W.Frag} {H : Hp} {a : Addr} {xs : List V} (h : SqL K H a xs) : TyX K H (.ref a) (.type "list") := by
  rcases h with (h | ⟨o, h⟩) | h
  · exact .base (.lst h)
  · exact .base (.frz h)
  · obtain ⟨o, its, n, h1, h2, _⟩ := h
    exact .kList h1 h2
theorem tyx_t {K : PySem.W.Frag} {H : Hp} {a : Addr} {xs : List V} (h : SqT K H a xs) : TyX K H (.ref a) (.type "tuple") := by
  rcases h with (h | ⟨o, h⟩) | h
  · exact .base (.tup h)
  · exact .fTuple h
  · obtain ⟨o, its, n, h1, h2, _⟩ := h
    exact .kTuple h1 h2
theorem tyx_d {K : PySem.W.Frag} {H : Hp} {x : V} {d : PyData} (h : Dp K H x d) : TyX K H x (.type (tyName d)) := by
  cases h with
  | non => exact .base .non
  | bl b => exact .base (.bl b)
  | int i => exact .base (.int i)
  | str z => exact .base (.str z)
  | lst h _ => exact tyx_l h
  | tup h _ => exact tyx_t h
section
variable {K : PySem.W.Frag} {H : Hp} {Q : VK} {x : V} {d : PyData}
theorem isi_d {n : String} {b : Bool} (h : Dp K H x d) (hb : kitB (tyName d) n = some b) (q : Q (.bl b) H) : rISI K [x, .ty n] H Q :=
  .inl ⟨x, .ty n, _, _, b, rfl, .ty n, tyx_d h, kit_ty hb, q⟩
theorem isi_d2 {n m : String} {p : Addr} {b : Bool} (h : Dp K H x d) (hp : H p = some (.tup [.ty n, .ty m])) {b1 b2 : Bool} (h1 : kitB (tyName d) n = some b1) (h2 : kitB (tyName d) m = some b2) (hb : b = (b1 || b2)) (q : Q (.bl b) H) : rISI K [x, .ref p] H Q := by
  refine .inr ⟨x, p, _, _, [.type n, .type m], b, rfl, hp, .cons (.ty n) (.cons (.ty m) .nil), tyx_d h, ?_, q⟩
  subst hb
  refine kitAny_cons (kit_ty h1) (fun e => ?_) (fun e => by rw [e]; rfl)
  rw [e, Bool.false_or]
  exact kitAny_cons (kit_ty h2) (fun e => by rw [e]; exact kitAny_nil) (fun e => e)
/-- the six answers of isinstance and is None -/
def kindsB (d : PyData) : List Bool := match d with
  | .none => [false, false, false, false, false, true]
  | .bool _ => [true, true, false, false, false, false]
  | .int _ => [false, true, false, false, false, false]
  | .str _ => [false, false, true, false, false, false]
  | .list _ => [false, false, false, false, true, false]
  | .tuple _ => [false, false, false, true, false, false]
  | .dict _ => []
/-- a list of booleans as data -/
theorem dp_bools {p : Addr} (bs : List Bool) (h : SqL K H p (bs.map V.bl)) : Dp K H (.ref p) (.list (bs.map PyData.bool)) := by
  refine .lst h ?_
  induction bs with
  | nil => exact .nil
  | cons b bs ih =>
    have ih' : DpAll K H (bs.map V.bl) (bs.map PyData.bool) := by
      clear ih h
      induction bs with
      | nil => exact .nil
      | cons c cs ih => exact .cons (.bl c) ih
    exact .cons (.bl b) ih'
theorem eqv_same {d : PyData} (h : SeqAt.shaped d = true) : PyData.eqv d d = true := by
  unfold SeqAt.shaped at h
  rw [Bool.and_eq_true] at h
  exact SeqAt.eqv_refl d h.1
theorem dpAll_get : ∀ {vs : List V} {ds : List PyData}, DpAll K H vs ds → ∀ {i : Nat} (hi : i < ds.length), ∃ v, vs[i]? = some v ∧ Dp K H v ds[i]
  | _, _, .nil, i, hi => absurd hi (Nat.not_lt_zero _)
  | _, _, .cons a b, 0, hi => ⟨_, rfl, a⟩
  | _, _, .cons a b, i + 1, hi => dpAll_get b (Nat.lt_of_succ_lt_succ hi)
theorem dpAll_len : ∀ {vs : List V} {ds : List PyData}, DpAll K H vs ds → vs.length = ds.length
  | _, _, .nil => rfl
  | _, _, .cons a b => by rw [List.length_cons, List.length_cons, dpAll_len b]
end
/-- a comprehension over range(a, b, c) -/
theorem lc_rangeC {lo c : Int} {n : Nat} {g : TG} {tt : TT} {te : TE} {vs : List Nat} {σ : L2.St} {H1 : Hp} {D : Addr} {Qd : Hp → Prop} (Pv : Nat → Hp → Prop) (h0 : Pv 0 (upd H1 D (.lst [])))
    (hs : ∀ i H, i < n → Pv i H → g (.int (lo + (i : Nat) * c)) (wipe σ vs) H fun σ2 H2 => wipe σ2 vs = wipe σ vs ∧ tt σ2 H2 fun b H3 =>
      if b = true then te σ2 H3 fun y H4 => ∃ acc, H4 D = some (.lst acc) ∧ acc.length < sizeLine ∧ Pv (i + 1) (upd H4 D (.lst (acc ++ [y]))) else Pv (i + 1) H3) (hd : ∀ H, Pv n H → Qd H) :
    ∃ W : Nat → Nat → Hp → Prop, (∃ m, W 0 m (upd H1 D (.lst []))) ∧ ∀ i m H, W i m H →
      ((Itc lo c n).stop i H ∧ Qd H) ∨ ((Itc lo c n).go i H ∧ ∃ Nx : Hp → Prop, (∀ H', Nx H' → ∃ m', m' < m ∧ W (i + 1) m' H') ∧ ∀ x H', (Itc lo c n).yld i H x H' → g x (wipe σ vs) H' fun σ2 H2 => wipe σ2 vs = wipe σ vs ∧ tt σ2 H2 fun b H3 =>
        if b = true then te σ2 H3 fun y H4 => ∃ acc, H4 D = some (.lst acc) ∧ acc.length < sizeLine ∧ Nx (upd H4 D (.lst (acc ++ [y]))) else Nx H3) := by
  refine ⟨fun i m H => m = n - i ∧ i ≤ n ∧ Pv i H, ⟨n, by simp, Nat.zero_le _, h0⟩, ?_⟩
  rintro i m H ⟨rfl, hi, p⟩
  by_cases hlt : i < n
  · refine .inr ⟨hlt, Pv (i + 1), fun H' p' => ⟨n - (i + 1), by omega, rfl, hlt, p'⟩, fun x H' y => ?_⟩
    obtain ⟨rfl, rfl⟩ := y
    exact hs i _ hlt p
  · have e : i = n := by omega
    subst e
    exact .inl ⟨Nat.le_refl _, hd H p⟩
theorem rsize_pos {m f : Nat} (h1 : 1 ≤ m) (hf : 1 ≤ f) : Builtin.Range.rangeSize 0 (m : Int) (f : Int) = (((m - 1) / f + 1 : Nat) : Int) := by
  unfold Builtin.Range.rangeSize
  rw [if_pos (by omega), if_pos (by omega), Int.sub_zero, show (m : Int) - 1 = ((m - 1 : Nat) : Int) by omega]
  rfl
theorem small_pos {m f : Nat} (h1 : 1 ≤ m) (h2 : m ≤ 1000000) (hf : 1 ≤ f) (hf2 : f ≤ 1000000) : Builtin.Range.small 0 (m : Int) (f : Int) = true := by
  unfold Builtin.Range.small
  rw [rsize_pos h1 hf]
  simp only [Builtin.Range.rangeFitsLong, Bool.and_eq_true, Bool.or_eq_true, decide_eq_true_eq, beq_iff_eq, show ((f : Int) > 0) by omega, if_true]
  have h3 := Nat.div_le_self (m - 1) f
  generalize (m - 1) / f = q at *
  omega
/-! one sign in figures -/
theorem lit_figs : ("0123456789" : Str) = S [48, 49, 50, 51, 52, 53, 54, 55, 56, 57] := rfl
theorem find_fig (c : Nat) : Txt.find (S [48, 49, 50, 51, 52, 53, 54, 55, 56, 57]) (S [c]) = if 48 ≤ c ∧ c ≤ 57 then ((c - 48 : Nat) : Int) else -1 := by
  by_cases h : 48 ≤ c ∧ c ≤ 57
  · rw [if_pos h]
    have h2 : ∀ k : _root_.Fin 10, Txt.find (S [48, 49, 50, 51, 52, 53, 54, 55, 56, 57]) (S [48 + k.val]) = (k.val : Int) := by decide +kernel
    have e := h2 ⟨c - 48, by omega⟩
    rw [show 48 + (c - 48) = c by omega] at e
    exact e
  · rw [if_neg h]
    have e := SX.in_one [48, 49, 50, 51, 52, 53, 54, 55, 56, 57] c
    have h3 : decide (c ∈ [48, 49, 50, 51, 52, 53, 54, 55, 56, 57]) = false := decide_eq_false fun hm => h (by
      simp only [List.mem_cons, List.not_mem_nil, or_false] at hm
      omega)
    rw [h3, Bool.not_eq_false'] at e
    unfold Txt.find
    rw [List.isEmpty_iff] at e
    show (match Builtin.Str.occurrences (SX.S _) (SX.S [c]) 0 (SX.S _).length 1 with | i :: _ => (i : Int) | [] => -1) = -1
    rw [e]
/-! figures of a number -/
def figs : Nat → Nat → List Nat
  | 0, _ => []
  | w + 1, n => figs w (n / 10) ++ [48 + n % 10]
theorem figs_len : ∀ w n, (figs w n).length = w
  | 0, _ => rfl
  | w + 1, n => by rw [figs, List.length_append, figs_len w]; rfl
theorem digitChar_nat {n : Nat} (h : n < 10) : n.digitChar.toNat = 48 + n := by
  have h2 : ∀ k : _root_.Fin 10, k.val.digitChar.toNat = 48 + k.val := by decide
  exact h2 ⟨n, h⟩
theorem toDigits_len10 {w n : Nat} (h : n < 10 ^ w) (hw : 0 < w) : (Nat.toDigits 10 n).length ≤ w := by
  have h1 := (Nat.length_repr_le_iff (n := n) (k := w) hw).mpr h
  rwa [← String.length_toList, Nat.toList_repr] at h1
def pad (w n : Nat) : List Nat := List.replicate (w - (Nat.toDigits 10 n).length) 48 ++ (Nat.toDigits 10 n).map Char.toNat
theorem zpad_S (w n : Nat) : zpad w (n : Int) = S (pad w n) := rfl
theorem figs_zero : ∀ w, figs w 0 = List.replicate w 48
  | 0 => rfl
  | w + 1 => by
    rw [figs, Nat.zero_div, Nat.zero_mod, figs_zero w, List.replicate_succ']
theorem pad_figs : ∀ (w n : Nat), n < 10 ^ w → 0 < w → pad w n = figs w n
  | 0, _, _, h => absurd h (Nat.lt_irrefl _)
  | w + 1, n, h, _ => by
    by_cases hn : n < 10
    · unfold pad
      rw [Nat.toDigits_of_lt_base hn]
      show List.replicate (w + 1 - 1) 48 ++ [n.digitChar.toNat] = figs (w + 1) n
      rw [figs, digitChar_nat hn, Nat.div_eq_of_lt hn, Nat.mod_eq_of_lt hn, figs_zero]
      rfl
    · have hw : 0 < w := by
        rcases Nat.eq_zero_or_pos w with e | e
        · subst e
          simp at h
          omega
        · exact e
      have h2 : n / 10 < 10 ^ w := by
        rw [Nat.div_lt_iff_lt_mul (by decide)]
        rwa [Nat.pow_succ] at h
      have ih := pad_figs w (n / 10) h2 hw
      have hl := toDigits_len10 h2 hw
      rw [figs, ← ih]
      unfold pad
      rw [Nat.toDigits_of_base_le (by decide) (by omega), List.length_append, List.map_append, ← List.append_assoc]
      show List.replicate (w + 1 - ((Nat.toDigits 10 (n / 10)).length + 1)) 48 ++ _ ++ [(n % 10).digitChar.toNat] = _
      rw [digitChar_nat (Nat.mod_lt _ (by decide)), show w + 1 - ((Nat.toDigits 10 (n / 10)).length + 1) = w - (Nat.toDigits 10 (n / 10)).length by omega]
theorem figs_isD : ∀ w n, isD (figs w n) = true
  | 0, _ => rfl
  | w + 1, n => by
    show List.all (figs (w + 1) n) _ = true
    rw [figs, List.all_append]
    have e : (figs w (n / 10)).all (fun c => decide (48 ≤ c) && decide (c ≤ 57)) = true := figs_isD w (n / 10)
    rw [e, Bool.true_and]
    have := Nat.mod_lt n (show 10 > 0 by decide)
    simp
    omega
theorem digitsVal_snoc (a : List Nat) (c : Nat) : NumText.digitsVal (a ++ [c]) = NumText.digitsVal a * 10 + (c - 48) := by
  unfold NumText.digitsVal
  rw [List.foldl_append]
  rfl
theorem digitsVal_figs : ∀ w n, n < 10 ^ w → NumText.digitsVal (figs w n) = n
  | 0, n, h => by
    have : n = 0 := by simpa using h
    subst this
    rfl
  | w + 1, n, h => by
    rw [figs, digitsVal_snoc, digitsVal_figs w (n / 10) (by rw [Nat.div_lt_iff_lt_mul (by decide)]; rwa [Nat.pow_succ] at h)]
    omega
theorem isD_isT {l : List Nat} (h : isD l = true) : isT l = true := isT_of fun c hc => by
  have z := List.all_eq_true.mp h c hc
  rw [Bool.and_eq_true, decide_eq_true_eq, decide_eq_true_eq] at z
  omega
end My

set_option Elab.async false
set_option linter.all false
set_option maxRecDepth 100000
set_option maxHeartbeats 400000
/-! ### the greatest, with one for none; noughts ahead -/
namespace My
open PySem PySem.Spec PyProof.Rows L2
theorem maxOf_int (x : Int) : ∀ xs : List Int, PySem.W.maxOf x xs ∈ x :: xs ∧ ∀ y ∈ x :: xs, y ≤ PySem.W.maxOf x xs := by
  intro xs
  unfold PySem.W.maxOf
  induction xs generalizing x with
  | nil => exact ⟨List.mem_singleton.mpr rfl, fun y hy => by rw [List.mem_singleton.mp hy]; exact Int.le_refl _⟩
  | cons z zs ih =>
    rw [List.foldl_cons]
    have e : PySem.W.DatumOrd.lt x z = decide (x < z) := rfl
    rw [e]
    by_cases h : x < z
    · rw [if_pos (decide_eq_true h)]
      obtain ⟨h1, h2⟩ := ih z
      refine ⟨List.mem_cons_of_mem _ h1, fun y hy => ?_⟩
      rcases List.mem_cons.mp hy with rfl | hy
      · exact Int.le_trans (Int.le_of_lt h) (h2 z (List.mem_cons_self ..))
      · exact h2 y hy
    · rw [if_neg (by rw [decide_eq_false h]; decide)]
      obtain ⟨h1, h2⟩ := ih x
      refine ⟨?_, fun y hy => ?_⟩
      · rcases List.mem_cons.mp h1 with h1 | h1
        · rw [h1]; exact List.mem_cons_self ..
        · exact List.mem_cons_of_mem _ (List.mem_cons_of_mem _ h1)
      · rcases List.mem_cons.mp hy with rfl | hy
        · exact h2 _ (List.mem_cons_self ..)
        · rcases List.mem_cons.mp hy with rfl | hy
          · exact Int.le_trans (by omega) (h2 x (List.mem_cons_self ..))
          · exact h2 y (List.mem_cons_of_mem _ hy)
section
variable {X : Cx}
def rMAXD (K : PySem.W.Frag) : List V → List V → Hp → VK → Prop := fun xs zs H Q => ∃ (a : Addr) (ns : List Int) (d : V), xs = [.ref a] ∧ zs = [d] ∧ SqL K H a (ns.map V.int) ∧ (ns = [] → Q d H) ∧ ∀ m, m ∈ ns → (∀ y, y ∈ ns → y ≤ m) → Q (.int m) H
theorem call_MAXD (hc : X.calm = true) (hu : X.A.units + 64 < cLine) : CallRK X (.builtin "max") ["default"] (rMAXD X.K) := by
  intro pins s σ H xs zs us ws Q I rx rz h
  obtain ⟨a, ns, d, rfl, rfl, hs, q0, q⟩ := h
  obtain ⟨its, rv, hl, _⟩ := I.list hs
  rw [Vals.ref1 rx]
  cases rz with
  | cons r1 r2 =>
    cases r2
    rename_i w
    have hi : IntsAre its ns := rv.ints
    refine PySem.W.max_list_datum_default (xs := ns) (I.ok.hd hc) hl.isList ?_ ?_ (fun e h' tk hk => ⟨d, H, I.kept hk, r1, q0 e⟩) fun y ys i v h' tk e hv hh hk => ?_
    · rw [List.toList_toArray]
      exact PySem.W.HoldAll.of_ints hi
    · show X.A.units + 1 + 0 < cLine
      omega
    · subst e
      obtain ⟨m1, m2⟩ := maxOf_int y ys
      obtain ⟨as, hr⟩ := hh
      have hr' : Reads h' v (.int (PySem.W.maxOf y ys)) as := hr
      cases hr' with
      | int _ t => exact ⟨.int _, H, I.kept hk, ⟨t, rfl⟩, q _ m1 m2⟩
end
end My
namespace PySem
open Builtin Builtin.Str Builtin.Int
theorem my_gives_rjust3 (x : Str) (i : Int) (c : Nat) (t u v : Tok) (hr : (decide (i < -(2 ^ 63 : Int)) || decide (i ≥ 2 ^ 63)) = false) (hl : tooLong i.toNat = false) :
    Gives («str.rjust» ⟨[.str x t, .int i u, .str ⟨#[c]⟩ v], []⟩) (if i ≤ x.length then .val (.str x t) else .str (padded x (i.toNat - x.length) 0 c)) := by
  show Gives (do
             let width ← asSsize s!"str.{"rjust"}" (.int i u)
             if width ≤ x.length then (do rule s!"str.{"rjust"}.long-enough"; ret (.str x t)) else
             if tooLong width.toNat = true then unsupported s!"str.{"rjust"}:memory" else retStr (padded x (width.toNat - x.length) 0 c)) _
  rw [asSsize_int _ _ _ hr]
  show Gives (if i ≤ x.length then (do rule s!"str.{"rjust"}.long-enough"; ret (.str x t)) else if tooLong i.toNat = true then unsupported s!"str.{"rjust"}:memory" else retStr (padded x (i.toNat - x.length) 0 c)) _
  rw [hl]
  by_cases h : i ≤ (x.length : Int)
  · rw [if_pos h, if_pos h]; exact .rule (.of_eq rfl)
  · rw [if_neg h, if_neg h]; exact .of_eq rfl
def myRjust (x : Str) (i : Int) (c : Nat) : Str := if i ≤ x.length then x else padded x (i.toNat - x.length) 0 c
theorem my_rjust3 {prog : Program} {w : World} {A : Around} {E : Value → Shared → Prop} {s : Shared} {Q : Value → Shared → Prop} {x : Str} {t : Tok} {i : Int} {c : Nat} {u v : Tok} (hp : PadOk i = true) (hq : ∀ t' k, Q (.str (myRjust x i c) t') { s with toks := k }) : wpAny (model prog w) A (call (.builtin "str.rjust") [.str x t, .int i u, .str ⟨#[c]⟩ v]) Q E s :=
  call_gives F.slot_str_rjust (typeIs_str _ _ _) F.entry_str_rjust (F.args_str_rjust_3 _ _ _) (my_gives_rjust3 x i c t u v (PadOk.parts hp).1 (PadOk.parts hp).2) (post_val_or_made (fits_padL c (PadOk.parts hp).2) hq)
end PySem
namespace My
open PySem PySem.Spec PyProof.Rows L2
section
variable {X : Cx}
def rM_rjust2 : V → List V → Hp → VK → Prop := fun x xs H Q => ∃ (a : Str) (i : Int) (c : Nat), x = .str a ∧ xs = [.int i, .str ⟨#[c]⟩] ∧ PadOk i = true ∧ Q (.str (myRjust a i c)) H
theorem mt_RJUST2 : MtR X "str.rjust" rM_rjust2 := by
  intro pins s σ H x xs v us Q I rx rs h
  obtain ⟨a, i, c, rfl, rfl, hc, h⟩ := h
  obtain ⟨t, rfl⟩ := rx
  cases rs with
  | cons r1 rs =>
    cases rs with
    | cons r2 rs =>
      cases rs
      obtain ⟨u, rfl⟩ := r1
      obtain ⟨z, rfl⟩ := r2
      exact my_rjust3 hc fun t' k => ⟨.str (myRjust a i c), H, I.tok k, ⟨t', rfl⟩, h⟩
end
theorem rj_S (l : List Nat) (w c : Nat) : myRjust (S l) (w : Int) c = S (List.replicate (w - l.length) c ++ l) := by
  unfold myRjust
  rw [S_len]
  by_cases h : (w : Int) ≤ l.length
  · rw [if_pos h, show w - l.length = 0 by omega]
    rfl
  · rw [if_neg h]
    unfold Builtin.Str.padded
    show (⟨_⟩ : Str) = ⟨_⟩
    congr 1
    apply Array.ext'
    simp
theorem numL_eq (n : Nat) : TL.numL n = (Nat.toDigits 10 n).map Char.toNat := by
  unfold TL.numL
  simp
theorem rj_num (n : Nat) : myRjust (Str.ofString (toString (n : Int))) 6 48 = S (pad 6 n) := by
  rw [SX.num_S]
  have e := rj_S (TL.numL n) 6 48
  rw [numL_eq, List.length_map] at e
  rw [numL_eq]
  exact e
end My

set_option Elab.async false
set_option linter.all false
set_option maxRecDepth 100000
set_option maxHeartbeats 400000
/-! ### unpacking, slices of lists and tuples, appending -/
namespace My
open PySem PySem.Spec PyProof.Rows L2
section
variable {K : PySem.W.Frag} {H : Hp} {Q : VK} {σ : L2.St} {v x : V} {r : List V}
theorem x_gc {t : TG} {u : TGs} {N : L2.St → Hp → Prop} (h : t v σ H fun σ' H' => u r σ' H' N) : gCons t u (v :: r) σ H N := ⟨v, r, rfl, h⟩
theorem x_gz {N : L2.St → Hp → Prop} (h : N σ H) : gNil [] σ H N := ⟨rfl, h⟩
theorem gt_T {a : Addr} {xs : List V} {n : Nat} {t : TGs} {N : L2.St → Hp → Prop} (hs : SqT K H a xs) (hl : xs.length = n) (h : t xs σ H N) : gTup K n t (.ref a) σ H N := ⟨a, xs, rfl, hs, hl, h⟩
theorem x_ckw {rr : List V → List V → Hp → VK → Prop} {ta tk : TA} (h : ta σ H fun vs H1 => tk σ H1 fun zs H2 => rr vs zs H2 Q) : tCKw rr ta tk σ H Q := h
theorem ap_L {p : Addr} {xs : List V} {y : V} (hp : H p = some (.lst xs)) (hl : xs.length ≤ 1000000) (h : Q .non (upd H p (.lst (xs ++ [y])))) : rAppend (.ref p) [y] H Q := ⟨p, xs, y, rfl, rfl, hp, Nat.lt_of_le_of_lt hl (by decide), h⟩
theorem cutV_mid (xs : List V) (a b : Nat) : cutV xs (some (a : Int)) (some (b : Int)) = (xs.take b).drop a := by
  unfold cutV
  rw [HT.sIx_nat, HT.sIx_nat, List.drop_take]
  rcases Nat.le_total a xs.length with h | h
  · rw [Nat.min_eq_left h]
    rcases Nat.le_total b xs.length with h2 | h2
    · rw [Nat.min_eq_left h2]
    · rw [Nat.min_eq_right h2, List.take_of_length_le (by rw [List.length_drop]; exact Nat.le_refl _), List.take_of_length_le (by rw [List.length_drop]; omega)]
  · rw [Nat.min_eq_right h, List.drop_eq_nil_of_le h]
    simp
theorem cutV_from (xs : List V) (a : Nat) : cutV xs (some (a : Int)) none = xs.drop a := by
  unfold cutV
  rw [HT.sIx_nat, HT.sIx_none]
  rcases Nat.le_total a xs.length with h | h
  · rw [Nat.min_eq_left h]
    exact List.take_of_length_le (by rw [List.length_drop]; exact Nat.le_refl _)
  · rw [Nat.min_eq_right h, List.drop_eq_nil_of_le h]
    simp
theorem cutV_to (xs : List V) (b : Nat) : cutV xs none (some (b : Int)) = xs.take b := by
  unfold cutV
  rw [HT.sIx_nat, HT.sIx_none, List.drop_zero, Nat.sub_zero]
  rcases Nat.le_total b xs.length with h | h
  · rw [Nat.min_eq_left h]
  · rw [Nat.min_eq_right h, List.take_of_length_le (Nat.le_refl _), List.take_of_length_le h]
theorem sl_T {a : Addr} {xs : List V} {lo hi : Option Int} (hs : SqT K H a xs) (h : ∀ p H', Same H H' → SqT K H' p (cutV xs lo hi) → Q (.ref p) H') : rSL K (.ref a) lo hi H Q := by
  refine .inr (.inr ⟨a, xs, rfl, hs, fun e => ?_, fun _ p hp => h p _ (same_upd hp) (tup_of upd_same)⟩)
  refine h a H (Same.refl H) ?_
  have e2 : cutV xs lo hi = xs := by
    unfold cutV
    rw [e.1, e.2, List.drop_zero, Nat.sub_zero, List.take_of_length_le (Nat.le_refl _)]
  rw [e2]
  exact hs
theorem sl_any {l : List Nat} {lo hi : Option Int} (hl : l.length ≤ 1000000) (hT : isT l = true) (q : ∀ l', l'.length ≤ l.length → isT l' = true → Q (.str (S l')) H) : rSL K (.str (S l)) lo hi H Q := by
  refine sl_S (by rw [S_len]; exact big_line hl) ?_
  unfold cutS
  rw [S_cps]
  refine q _ ?_ (isT_take _ (isT_drop _ hT))
  rw [List.length_take, List.length_drop]
  omega
theorem mx_L {a : Addr} {ns : List Int} (hs : SqL K H a (ns.map V.int)) (h0 : 0 < ns.length) (q : ∀ m, m ∈ ns → (∀ y, y ∈ ns → y ≤ m) → Q (.int m) H) : rMax K [.ref a] H Q := ⟨a, ns, rfl, hs, h0, q⟩
theorem mxd_L {a : Addr} {ns : List Int} {d : V} (hs : SqL K H a (ns.map V.int)) (h0 : ns = [] → Q d H) (q : ∀ m, m ∈ ns → (∀ y, y ∈ ns → y ≤ m) → Q (.int m) H) : rMAXD K [.ref a] [d] H Q := ⟨a, ns, d, rfl, rfl, hs, h0, q⟩
theorem tu_L {a : Addr} {xs : List V} (hs : SqL K H a xs) (h : ∀ l, H l = none → Q (.ref l) (upd H l (.tup xs))) : rTUPLE K [.ref a] H Q := ⟨a, xs, rfl, .inl ⟨hs, h⟩⟩
end
end My

set_option Elab.async false
set_option linter.all false
set_option maxRecDepth 100000
set_option maxHeartbeats 400000
/-! ### small letters; the least of a list -/
namespace My
open PySem PySem.Spec PyProof.Rows L2
def rM_lower : V → List V → Hp → VK → Prop := fun x xs H Q => ∃ a, x = .str a ∧ xs = [] ∧ a.length ≤ 5592405 ∧ Q (.str (Txt.lower a)) H
theorem lo1_T {c : Nat} (h0 : 32 ≤ c) (h1 : c ≤ 126) : 32 ≤ lo1 c ∧ lo1 c ≤ 126 := by
  have h2 : ∀ c : _root_.Fin 127, 32 ≤ c.val → 32 ≤ lo1 c.val ∧ lo1 c.val ≤ 126 := by decide +kernel
  exact h2 ⟨c, by omega⟩ h0
theorem lw_S {H : Hp} {Q : VK} {l : List Nat} (hl : l.length ≤ 1000000) (hT : isT l = true) (q : ∀ l' : List Nat, l'.length = l.length → isT l' = true → Q (.str (S l')) H) : rM_lower (.str (S l)) [] H Q := by
  refine ⟨S l, rfl, rfl, by rw [S_len]; omega, ?_⟩
  have e : Txt.lower (S l) = S (l.map lo1) := SX.lower_S (List.all_eq_true.mpr fun c hc => decide_eq_true (by have := isT_mem hT hc; omega))
  rw [e]
  refine q _ (List.length_map ..) (isT_of fun c hc => ?_)
  obtain ⟨d, hd, rfl⟩ := List.mem_map.mp hc
  have := isT_mem hT hd
  exact lo1_T this.1 this.2
theorem lcS_mk {H : Hp} {Q : VK} {σ : L2.St} {g : TG} {t : TT} {te : TE} {ws : List Nat} {l : List Nat} (Pv : Addr → Nat → Hp → Prop) (h0 : ∀ D, H D = none → Pv D 0 (upd H D (.lst [])))
    (hs : ∀ D i c H', H D = none → l[i]? = some c → Pv D i H' → g (.str (S [c])) (wipe σ ws) H' fun σ2 H2 => wipe σ2 ws = wipe σ ws ∧ t σ2 H2 fun b H3 => if b = true then te σ2 H3 fun y H4 => ∃ acc, H4 D = some (.lst acc) ∧ acc.length < sizeLine ∧ Pv D (i + 1) (upd H4 D (.lst (acc ++ [y]))) else Pv D (i + 1) H3)
    (hd : ∀ D H', H D = none → Pv D l.length H' → Q (.ref D) H') : LcS g t te ws σ Q (.str (S l)) H := by
  refine ⟨S l, rfl, fun D hD => ⟨fun i m H' => m = l.length - i ∧ i ≤ l.length ∧ Pv D i H', ⟨l.length, by simp, Nat.zero_le _, h0 D hD⟩, ?_⟩⟩
  rintro i m H' ⟨rfl, hi, p⟩
  have hsz : (S l).cps.size = l.length := rfl
  by_cases hlt : i < l.length
  · refine .inr ⟨by show i < (S l).cps.size; rw [hsz]; exact hlt, Pv D (i + 1), fun H2 p' => ⟨l.length - (i + 1), by omega, rfl, hlt, p'⟩, fun x H2 y => ?_⟩
    obtain ⟨rfl, c, hc, rfl⟩ := y
    refine hs D i c _ hD ?_ p
    have e : (S l).cps = l.toArray := rfl
    rw [e] at hc
    simpa using hc
  · have e : i = l.length := by omega
    subst e
    exact .inl ⟨by show (S l).cps.size ≤ l.length; rw [hsz]; exact Nat.le_refl _, hd D H' hD p⟩
section
variable {K : PySem.W.Frag} {H : Hp} {Q : VK}
theorem mn_L {a : Addr} {ns : List Int} (hs : SqL K H a (ns.map V.int)) (h0 : 0 < ns.length) (q : ∀ m, m ∈ ns → (∀ y, y ∈ ns → m ≤ y) → Q (.int m) H) : rMin K [.ref a] H Q := ⟨a, ns, rfl, hs, h0, q⟩
end
end My

set_option Elab.async false
set_option linter.all false
set_option maxRecDepth 100000
set_option maxHeartbeats 1000000
/-! ### raised and caught; tokens; texts exchanged in texts -/
namespace My
open PySem PySem.Spec PyProof.Rows L2
/-! #### raise, try -/
/-- an error of a class without fields leaves -/
def tRaise (c : Value) (E : XK) : TS := fun _ _ H => E c none H
/-- inside a try -/
def tRaiseW (c : Value) (W : WX) : TS := fun _ σ H => W c none σ H
def tTry (K : PySem.W.Frag) (Wout : WX) (l : List (Value × (Addr → Value → Option Addr → TS))) (tb : WX → TS) : TS := fun D σ H => tb (wMany K Wout D l) D σ H
def W0 : WX := fun _ _ _ _ => False
section
variable {X : Cx} {C : Addr}
theorem ps_raiseE {x m : Str} {j : Nat} {p p2 pos pos2 : Pos} {bmB : List Value} {B newId initId : String} {E : XK} (hc : X.calm = true) (tk : Takes X (fun cls d _ H => E cls d H)) (F : ExcBaseFacts B newId initId bmB) (q : PySem.W.excIn X.K C bmB newId = true) (gC : X.mg x = some (.ref C)) (kC : PySem.W.keepIn X.K (.ref C) = true) (r : Raises X (.ref C)) (hg : Gl X x)
    (hdb : (x == ("__debug__" : Str)) = false := by decide) : PS X (.Raise (some (.Call (.Name x p) [.Constant (.str m) j p2] [] pos)) none pos2) (tRaise (.ref C) E) := ps_raise hc tk (pmk_own F q gC kC r hg hdb)
theorem ps_tryM {body : List Stmt} {h₀ : ExceptHandler} {hds : List ExceptHandler} {l : List (Value × (Addr → Value → Option Addr → TS))} {pos : Pos} {tb : WX → TS} {Wout : WX} (hs : X.stack = X.env :: X.outer) (hf : X.env.frame = some X.env.locals) (tk : Takes X Wout)
    (hb : ∀ (W : WX) (pn : List (Addr × Obj)) (xe : Value → Shared → Prop), Takes (X.tr pn xe) W → PassesOwn (model X.prog X.w) X.A X.env xe → PSs (X.tr pn xe) body (tb W))
    (hh : HdsOk X (h₀ :: hds) l) : PS X (.Try body (h₀ :: hds) [] [] pos) (tTry X.K Wout l tb) := ps_try_many hs hf tk hb hh
/-- what a callee lets out, the def lets out -/
theorem passT {E : XK} (tk : Takes X (fun cls d _ H => E cls d H)) : Passes (L2.CX X.prog X.w) X E := fun pins σ H s e s' I c => passAt tk σ pins H s e s' I c
end
/-! #### tokens: a def that is run where a text has been written -/
structure FnT (P : Program) (w : World) (K : PySem.W.Frag) (mg : Str → Option Value) (base : Heap) (CX : CXT) (k : Nat) (f : Addr) (fd : FuncData) (ps : List Str) (sp : Sp) : Prop where
  len : ∀ vs H Q E, sp vs H Q E → vs.length = ps.length
  run : ∀ (A : Around) (outer : List Env) (s : Shared) (H : Hp) (args : Args) (us : List Value) (vs : List V) (Q : VK) (E : XK), 1 ≤ s.toks → Room k A → Env0 P w K mg base A outer s H → BindsTo s fd args (ps.zip us) → Vals vs us → sp vs H Q E →
    codeAny (model P w) A (.call (.ref f) args) (CR CX outer P w H s Q E) s
theorem FnT.mono {P : Program} {w : World} {K : PySem.W.Frag} {mg : Str → Option Value} {base : Heap} {CX : CXT} {j k : Nat} {f : Addr} {fd : FuncData} {ps : List Str} {sp : Sp} (F : FnT P w K mg base CX j f fd ps sp) (h : j ≤ k) :
    FnT P w K mg base CX k f fd ps sp := ⟨F.len, fun A outer s H args us vs Q E h0 hr => F.run A outer s H args us vs Q E h0 (hr.mono h)⟩
theorem fnT_of {CX : CXT} {P : Program} {w : World} {K : PySem.W.Frag} {mg : Str → Option Value} {base : Heap} {k : Nat} {f : Addr} {name qual : Str} {params : Arguments} {body : List Stmt} {scope : Scope} {dV kV doc pm cdv ct oc : Value} {an od : Option Addr}
    {osl : Array (Option Value)} {N ps : List Str} {sp : Sp} (lk : K.lookup f = some ⟨oc, od, .func (PySem.W.fnOf name qual params body scope dV kV doc pm an cdv ct), osl⟩) (hcd : PySem.W.codeIn K cdv qual = true) (S : FnScope N ps scope)
    (len : ∀ vs H Q E, sp vs H Q E → vs.length = ps.length)
    (hbody : ∀ (A : Around) (outer : List Env) (s : Shared) (H : Hp) (vs : List V) (Q : VK) (E : XK), Room k (A.deeper (envOfC qual scope s.heap.objs.size f cdv)) → sp vs H Q E →
      ∃ t, PSsT (cxOf CX P w K mg base N qual scope f cdv A outer s H E) body t ∧ t { nx := fun _ H' => Q .non H', rt := Q } (start N vs) H) :
    FnT P w K mg base CX (k + 1) f (PySem.W.fnOf name qual params body scope dV kV doc pm an cdv ct) ps sp := by
  refine ⟨len, fun A outer s H args us vs Q E h0 hr e0 hb r hsp => ?_⟩
  have hl := len _ _ _ _ hsp
  have KX : K.In s.heap := e0.mod.kin.keeps fun b o e => (e0.bs b o e).1
  have lim : s.heap.NoLimit := e0.mod.nolimit.keeps fun b o e => (e0.bs b o e).1
  have hkind : ∀ y ∈ ps.zip us, scope.names.lookup y.1 = some .local ∨ (scope.names.lookup y.1 = some .cell ∧ ((cellsFrom (s.heap.objs.size + 1) scope.names []).lookup y.1).isSome = true) := fun ⟨n, v⟩ hy => by
    rcases S.par n (List.of_mem_zip hy).1 with q | q
    · exact .inl q
    · exact .inr ⟨q, PySem.W.cellsFrom_some _ _ _ (.inl q)⟩
  refine codeAny_call_function hr.depth (KX _ _ lk) rfl S.co S.gen rfl (PySem.W.codeRec_of KX hcd) (hb _ _ _ _ ?_)
  refine wpAny_with_toks h0 (wpAny_newFunctionEnv_cells S.kind hkind fun env he s1 x => ?_)
  intro h1
  subst he
  refine ⟨lim.keeps x.toInCall.keep, codeAny_func ?_⟩
  obtain ⟨t, ht, hq⟩ := hbody A outer s H vs Q E (hr.deeper _) hsp
  have I : Inv (cxOf CX P w K mg base N qual scope f cdv A outer s H E) [] (start N vs) H s1 := inv_start S hr.hd e0 hl r x
  refine wpAny_mono (ht [] s1 (start N vs) H _ h1 I hq) (fun fl s' hs => ?_) fun e s' hs => hs
  have fin : ∀ {σ' : L2.St} {H' : Hp} {v : V} {u : Value}, Inv (cxOf CX P w K mg base N qual scope f cdv A outer s H E) [] σ' H' s' → RelV v u → Q v H' → CE outer P w H s Q u s' :=
    fun {σ' H' v u} J rv q => ⟨v, H', J.os, J.bare, J.base, J.hok, rv, q⟩
  cases fl with
  | ret u =>
    obtain ⟨v, σ', H', J, rv, q⟩ := hs
    exact fin J rv q
  | next =>
    obtain ⟨σ', H', J, q⟩ := hs
    exact fin (v := V.non) (u := Value.none) J rfl q
  | brk =>
    obtain ⟨_, _, _, q⟩ := hs
    exact False.elim q
  | cont =>
    obtain ⟨_, _, _, q⟩ := hs
    exact False.elim q
theorem Fun.okT {P : Program} {w : World} {K : PySem.W.Frag} {mg : Str → Option Value} {base : Heap} {x qual : Str} {st : Stmt} {f : Addr} {fd : FuncData} {N ps : List Str} {k : Nat} {sp : Sp} (F : L2.Fun K x qual st f fd) (S : FnScope N ps (defScope st)) (len : ∀ vs H Q E, sp vs H Q E → vs.length = ps.length)
    (hbody : ∀ (cdv : Value) (A : Around) (outer : List Env) (s : Shared) (H : Hp) (vs : List V) (Q : VK) (E : XK), Room k (A.deeper (envOfC qual (defScope st) s.heap.objs.size f cdv)) → sp vs H Q E →
      ∃ t, PSsT (cxOf CX0 P w K mg base N qual (defScope st) f cdv A outer s H E) (defBody st) t ∧ t { nx := fun _ H' => Q .non H', rt := Q } (start N vs) H) : FnT P w K mg base CX0 (k + 1) f fd ps sp := by
  obtain ⟨oc, od, kV, doc, pm, an, cdv, ct, osl, rfl, lk, hcd⟩ := F.ex
  exact fnT_of lk hcd S len fun A outer s H vs Q E hr hsp => hbody cdv A outer s H vs Q E hr hsp
section
variable {X : Cx} {CX : CXT} {k : Nat} {f : Addr} {fd : FuncData} {ps : List Str} {sp : Sp} {E : XK} {x m : Str} {p pos apos : Pos} {e o : Expr} {es : List Expr} {ta to te tb : TE} {t : TA} {st : Stmt} {rest : List Stmt} {u v : TS}
theorem PET.of (h : PE X e te) : PET X e te := fun pins s σ H Q _ I q => h.run pins s σ H Q I q
theorem PAT.of (h : PA X es t) : PAT X es t := fun pos pins s σ H Q _ I q => h.run pos pins s σ H Q I q
theorem run_fnT {pins : List (Addr × Obj)} {σ : L2.St} {H : Hp} {s : Shared} {Q : VK} {us : List Value} {vs : List V} (F : FnT X.prog X.w X.K X.mg X.base CX k f fd ps sp) (h0 : 1 ≤ s.toks) (hr : Room k X.A) (hb : Binds X.K fd ps []) (hx : Passes CX X E)
    (I : Inv X pins σ H s) (r : Vals vs us) (h : sp vs H Q E) : wpAny (model X.prog X.w) X.A (call (.ref f) us) (EP X pins σ Q) X.xe s := by
  have hl : us.length = ps.length := by rw [← r.length]; exact F.len _ _ _ _ h
  have b := hb s us I.kIn (by rw [List.append_nil]; exact hl)
  rw [List.append_nil] at b
  refine wpAny_call (codeAny_mono (F.run X.A X.stack s H ⟨us, []⟩ us vs Q E h0 hr I.env0 b r h) fun r s' hq => ?_)
  cases r with
  | error e => exact hx pins σ H s e s' I hq
  | ok fl =>
    cases fl with
    | ret u => exact I.after hq
    | next => exact False.elim hq
    | brk => exact False.elim hq
    | cont => exact False.elim hq
theorem pe_callT (F : FnT X.prog X.w X.K X.mg X.base CX k f fd ps sp) (hr : Room k X.A) (hg : Gl X x) (hm : X.mg x = some (.ref f)) (hk : PySem.W.keepIn X.K (.ref f) = true) (hb : Binds X.K fd ps []) (hx : Passes CX X E)
    (ha : PA X (e :: es) t) (hdb : (x == ("__debug__" : Str)) = false := by decide) (he : starEach (e :: es) X.env = (false, eval e X.env) :: starEach es X.env := by rfl) (hpl : (backTo pos (starEach es X.env)).any (·.1) = false := by rfl) :
    PET X (.Call (.Name x p) (e :: es) [] pos) (tCall sp [] E t) := by
  intro pins s σ H Q h0 I h
  refine wpAny_Call_Name_kw (ld_glob I hg hm ?_ hdb)
  refine PySem.W.callWith_K (h₀ := X.base) I.ok.mod.kin hk (wpAny_mono (wpAny_toks_of h0 (ha.run pos pins s σ H _ I h)) (fun us s1 ⟨h1, vs, H1, I1, r, q⟩ => ⟨I1.kIn, ?_⟩) fun _ _ z => z.2) he hpl
  have q' : sp vs H1 Q E := by
    have e : vs ++ [] = vs := List.append_nil vs
    have q2 : sp (vs ++ []) H1 Q E := q
    rw [e] at q2
    exact q2
  exact run_fnT F h1 hr hb hx I1 r q'
/-- a written text on the left -/
theorem pe_opK {c : Str} {j : Nat} {cp : Pos} {op : Operator} {r : R2} {b : Expr} (ho : OpR X (binaryOp op) r) (hb : PET X b tb) : PE X (.BinOp (.Constant (.str c) j cp) op b pos) (tOp r (tC (.str c)) tb) := by
  refine ⟨fun pins s σ H Q I h => ?_⟩
  refine wpAny_BinOp (Calls.Constant_str ?_)
  refine thn (hb pins { s with toks := s.toks + 1 } σ H _ (Nat.le_add_left _ _) (I.tok _) h) fun u s2 ⟨y, H2, I2, ry, q⟩ => ?_
  exact ho pins s2 σ H2 (.str c) y _ u Q I2 ⟨_, rfl⟩ ry q
theorem pet_op {op : Operator} {r : R2} {a b : Expr} (ho : OpR X (binaryOp op) r) (ha : PET X a ta) (hb : PE X b tb) : PET X (.BinOp a op b pos) (tOp r ta tb) := by
  intro pins s σ H Q h0 I h
  refine wpAny_BinOp (thn (ha pins s σ H _ h0 I h) fun v s1 ⟨x, H1, I1, r1, q1⟩ => ?_)
  refine thn (hb.run pins s1 σ H1 _ I1 q1) fun u s2 ⟨y, H2, I2, r2, q2⟩ => ?_
  exact ho pins s2 σ H2 x y v u Q I2 r1 r2 q2
theorem pst_ret (he : PET X e te) : PST X (.Return (some e) pos) (tRet te) := by
  intro pins s σ H D h0 I h
  exact wpAny_Return_some (thn (he pins s σ H _ h0 I h) fun v s1 ⟨x, H1, I1, r1, q1⟩ => ⟨x, σ, H1, I1, r1, q1⟩)
theorem psst_one (h : PST X st u) : PSsT X [st] u := by
  intro pins s σ H D h0 I q
  refine wpAny_execs_cons (thn (h pins s σ H D h0 I q) fun f s1 q1 => ?_)
  cases f with
  | next =>
    obtain ⟨σ', H', I', q2⟩ := q1
    exact wpAny_execs_nil ⟨σ', H', I', q2⟩
  | ret v => exact q1
  | brk => exact q1
  | cont => exact q1
/-- o.replace('y', 'z') -/
def tRepl (y z : Str) (to : TE) : TE := fun σ H Q => to σ H fun x H1 => ∃ a : Str, x = .str a ∧ a.length + (a.length + 1) * z.length ≤ 16777216 ∧ Q (.str (Txt.replace a y z)) H1
theorem pet_repl {y z : Str} {j0 j1 : Nat} {c0 c1 apos : Pos} (ho : PET X o to) (hyz : (y == z) = false)
    (hst : starEach [.Constant (.str y) j0 c0, .Constant (.str z) j1 c1] X.env = [(false, eval (.Constant (.str y) j0 c0) X.env), (false, eval (.Constant (.str z) j1 c1) X.env)] := by rfl)
    (hbase : attributeBase o "replace" X.env (eval o X.env) = eval o X.env := by rfl) (hline : (apos.endLine == pos.line) = true := by rfl) :
    PET X (.Call (.Attribute o "replace" apos) [.Constant (.str y) j0 c0, .Constant (.str z) j1 c1] [] pos) (tRepl y z to) := by
  intro pins s σ H Q h0 I h
  refine PySem.Call_method2 hbase hst hline (wpAny_mono (wpAny_toks_of h0 (ho pins s σ H _ h0 I h)) (fun v s1 ⟨h1, x, H1, I1, r1, a, ea, hb, q⟩ => ?_) fun _ _ z => z.2)
  subst ea
  obtain ⟨tx, e⟩ := r1
  subst e
  refine ⟨"str", _, F.plainAttrs_str, F.slot_str_replace, F.type_str_replace, typeIs_str _ _ _, (fun _ e => nomatch e), Calls.callWith_builtin rfl (Calls.evalArgs_plain (Calls.spliced_cons (Calls.Constant_str ?_)))⟩
  refine Calls.spliced_cons (Calls.Constant_str (Calls.spliced_nil ?_))
  exact PySem.SC.replace (show s1.toks ≠ 0 by omega) (show s1.toks + 1 ≠ 0 by omega) (show s1.toks ≠ s1.toks + 1 by omega) hyz hb fun t' k => ⟨.str (Txt.replace a y z), H1, I1.tok k, ⟨t', rfl⟩, q⟩
end
section
variable {K : PySem.W.Frag} {σ : L2.St} {H : Hp} {Q : VK} {ta te : TE} {tr : TA} {D : Ends} {x : V}
theorem x_callS {sp : Sp} {E : L2.St → XK} (h : tr σ H fun vs H1 => sp vs H1 Q (E σ)) : tCallS sp E tr σ H Q := h
theorem s_try {Wout : WX} {l : List (Value × (Addr → Value → Option Addr → TS))} {tb : WX → TS} (h : tb (wMany K Wout D l) D σ H) : tTry K Wout l tb D σ H := h
theorem s_raise {c : Value} {E : XK} (h : E c none H) : tRaise c E D σ H := h
theorem x_repl {y z : Str} (h : ta σ H fun x H1 => ∃ a : Str, x = .str a ∧ a.length + (a.length + 1) * z.length ≤ 16777216 ∧ Q (.str (Txt.replace a y z)) H1) : tRepl y z ta σ H Q := h
theorem x_disp {trs : List (TE × TE)} (h : ∀ p, H p = none → tPairs trs σ (upd H p (.dK [])) fun ps H2 => H2 p = some (.dK []) ∧ ∃ kvs : List (Key × V), ps = kvs.map (fun kv => (kV kv.1, kv.2)) ∧ kvs.length ≤ 15 ∧ Q (.ref p) (upd H2 p (.dK (mergeK [] kvs)))) : tDisp trs σ H Q := h
theorem w_hit {K : PySem.W.Frag} {Wout : WX} {D : Ends} {c cls : Value} {d : Option Addr} {ts : Addr → Value → Option Addr → TS} {r : List (Value × (Addr → Value → Option Addr → TS))} (e : PySem.W.exmOne K cls c = some true) (h : ∀ a, H a = none → ts a cls d D σ H) : wMany K Wout D ((c, ts) :: r) cls d σ H := ⟨true, e, (fun _ => h), (fun z => nomatch z)⟩
theorem w_miss {K : PySem.W.Frag} {Wout : WX} {D : Ends} {c cls : Value} {d : Option Addr} {ts : Addr → Value → Option Addr → TS} {r : List (Value × (Addr → Value → Option Addr → TS))} (e : PySem.W.exmOne K cls c = some false) (h : wMany K Wout D r cls d σ H) : wMany K Wout D ((c, ts) :: r) cls d σ H := ⟨false, e, (fun z => nomatch z), fun _ => h⟩
theorem ty_D {d : PyData} (h : Dp K H x d) (q : Q (.ty (tyName d)) H) : rTyp K [x] H Q := by
  cases h with
  | non => exact ty_N q
  | bl b => exact ty_B q
  | int i => exact ty_I q
  | str z => exact ty_S q
  | lst h _ => exact ty_L h q
  | tup h _ => exact ty_T h q
end
/-- one sign exchanged for a text, sign by sign -/
theorem repl_S (l : List Nat) (c : Nat) (z : List Nat) : Txt.replace (S l) (S [c]) (S z) = S (l.flatMap fun d => if d = c then z else [d]) := by
  have e := StrLaws.replace_list (x := S l) (y := S [c]) (z := S z) (Nat.le_refl 1)
  have e2 : (Txt.replace (S l) (S [c]) (S z)).cps.toList = l.flatMap fun d => if d = c then z else [d] := by
    rw [e]
    show StrLaws.replL [c] z l = _
    clear e
    induction l with
    | nil => exact StrLaws.replL_nil
    | cons d l ih =>
      rw [List.flatMap_cons]
      by_cases h : d = c
      · subst h
        rw [StrLaws.replL_hit (by simp) rfl, if_pos rfl]
        show z ++ StrLaws.replL [d] z l = _
        rw [ih]
      · rw [StrLaws.replL_miss (by simpa using h), if_neg h, ih]
        rfl
  rw [S_eta (Txt.replace (S l) (S [c]) (S z)), e2]
end My

set_option Elab.async false
set_option linter.all false
set_option maxRecDepth 100000
set_option maxHeartbeats 1000000
/-! ### heaps that change at two places; lists of drawn things; data -/
namespace My
open PySem PySem.Spec PyProof.Rows L2
section
variable {K : PySem.W.Frag}
def Frm (s g : Addr) (H H' : Hp) : Prop := ∀ a o, a ≠ s → a ≠ g → H a = some o → H' a = some o
theorem Frm.refl {s g : Addr} (H : Hp) : Frm s g H H := fun _ _ _ _ h => h
theorem Frm.trans {s g : Addr} {H1 H2 H3 : Hp} (a : Frm s g H1 H2) (b : Frm s g H2 H3) : Frm s g H1 H3 := fun x o h1 h2 h => b x o h1 h2 (a x o h1 h2 h)
theorem Frm.new {s g p : Addr} {H H' : Hp} {o : HO} (a : Frm s g H H') (h : H' p = none) : Frm s g H (upd H' p o) := fun x u h1 h2 e => by
  have e' := a x u h1 h2 e
  rw [upd_ne (ne_of_none e' h)]
  exact e'
theorem Frm.updS {s g : Addr} {H H' : Hp} {o : HO} (a : Frm s g H H') : Frm s g H (upd H' s o) := fun x u h1 h2 e => by
  rw [upd_ne h1]
  exact a x u h1 h2 e
theorem Frm.updG {s g : Addr} {H H' : Hp} {o : HO} (a : Frm s g H H') : Frm s g H (upd H' g o) := fun x u h1 h2 e => by
  rw [upd_ne h2]
  exact a x u h1 h2 e
theorem Frm.same {s g : Addr} {R H H' : Hp} (a : Frm s g H H') (e : Same R H) (hs : R s = none) (hg : R g = none) : Same R H' := fun x o h => a x o (fun z => by rw [z, hs] at h; cases h) (fun z => by rw [z, hg] at h; cases h) (e x o h)
theorem dp_ints {p : Addr} {H : Hp} (ns : List Int) (h : SqL K H p (ns.map V.int)) : Dp K H (.ref p) (.list (ns.map PyData.int)) := by
  refine .lst h ?_
  clear h
  induction ns with
  | nil => exact .nil
  | cons b bs ih => exact .cons (.int b) ih
theorem shaped_ints (ns : List Int) : SeqAt.shaped (.list (ns.map PyData.int)) = true := by
  have h1 : PyData.canLayAll0 (ns.map PyData.int) = true := by
    induction ns with
    | nil => rfl
    | cons b bs ih => simp [PyData.canLayAll0, PyData.canLay0, ih]
  have h2 : PyData.depthAll (ns.map PyData.int) ≤ 1 := by
    clear h1
    induction ns with
    | nil => simp [PyData.depthAll]
    | cons b bs ih =>
      simp only [List.map_cons, PyData.depthAll, PyData.depth] at *
      omega
  unfold SeqAt.shaped
  rw [Bool.and_eq_true]
  refine ⟨h1, decide_eq_true ?_⟩
  simp only [PyData.depth]
  omega
theorem log_40 {n : Int} (h0 : 0 < n) (h : n < 2 ^ 40) : n.natAbs.log2 < 9000 := by
  have h1 : n.natAbs < 2 ^ 40 := by omega
  exact Nat.lt_trans ((Nat.log2_lt (by omega)).mpr h1) (by decide)
theorem map_get {ns : List Int} {i : Nat} {x : V} (h : (ns.map V.int)[i]? = some x) : ∃ z, ns[i]? = some z ∧ x = .int z := by
  rw [List.getElem?_map] at h
  cases e : ns[i]? with
  | none => rw [e] at h; cases h
  | some z =>
    rw [e] at h
    exact ⟨z, rfl, (Option.some.inj h).symm⟩
theorem flat_len : ∀ {cs : List (List Nat)}, (∀ c ∈ cs, c.length = 1) → cs.flatten.length = cs.length
  | [], _ => rfl
  | c :: cs, h => by
    rw [List.flatten_cons, List.length_append, h c (List.mem_cons_self ..), flat_len fun d hd => h d (List.mem_cons_of_mem _ hd), List.length_cons]
    omega
theorem isT_flat {cs : List (List Nat)} (h : ∀ c ∈ cs, isT c = true) : isT cs.flatten = true := isT_of fun x hx => by
  obtain ⟨c, hc, hm⟩ := List.mem_flatten.mp hx
  exact isT_mem (h c hc) hm
theorem repl_len (k : Nat) (l : List Nat) : (List.replicate k l).flatten.length = k * l.length := by
  rw [List.length_flatten, List.map_replicate, List.sum_replicate_nat]
theorem isT_get {l : List Nat} (h : isT l = true) {i c : Nat} (hc : l[i]? = some c) : isT [c] = true := isT_of fun x hx => by
  rw [List.mem_singleton] at hx
  subst hx
  exact isT_mem h (List.mem_of_getElem? hc)
theorem Frm.of {s g : Addr} {H H' : Hp} (e : Same H H') : Frm s g H H' := fun a o _ _ h => e a o h
theorem Frm.mut {s g B : Addr} {H H' : Hp} {o : HO} (a : Frm s g H H') (hB : H B = none) : Frm s g H (upd H' B o) := fun x u h1 h2 e => by
  rw [upd_ne (ne_of_none e hB)]
  exact a x u h1 h2 e
def RngAll (lo hi : Int) (xs : List V) : Prop := ∀ x ∈ xs, ∃ i : Int, lo ≤ i ∧ i ≤ hi ∧ x = V.int i
theorem rng_nil {lo hi : Int} : RngAll lo hi [] := fun _ h => by cases h
theorem rng_cons {lo hi i : Int} {xs : List V} (h0 : lo ≤ i) (h1 : i ≤ hi) (h : RngAll lo hi xs) : RngAll lo hi (.int i :: xs) := fun x hx => by
  rcases List.mem_cons.mp hx with rfl | hx
  · exact ⟨i, h0, h1, rfl⟩
  · exact h x hx
theorem ix_rng {H : Hp} {Q : VK} {p : Addr} {zs : List V} {lo hi : Int} {i : Int} (hp : SqL K H p zs) (ha : RngAll lo hi zs) (h0 : 0 ≤ i) (h1 : i < (zs.length : Int)) (q : ∀ z : Int, lo ≤ z → z ≤ hi → Q (.int z) H) : rIX K (.ref p) (.int i) H Q := by
  refine ix_L hp (at_in h0 h1) ?_
  have hi : i.toNat < zs.length := by omega
  obtain ⟨z, a, b, e⟩ := ha zs[i.toNat] (List.getElem_mem hi)
  rw [e]
  exact q z a b
theorem rep1 (k c : Nat) : (List.replicate k [c]).flatten = List.replicate k c := by
  induction k with
  | zero => rfl
  | succ k ih => rw [List.replicate_succ, List.flatten_cons, ih]; rfl
theorem rep1_isT {k c : Nat} (h : isT [c] = true) : isT (List.replicate k c) = true := isT_of fun x hx => by
  rw [(List.mem_replicate.mp hx).2]
  exact isT_mem h (List.mem_singleton.mpr rfl)
def menu1 : List Nat := [32, 33, 34, 35, 36, 38, 39, 40, 41, 42, 43, 44, 45, 46, 47, 48, 49, 50, 51, 52, 53, 54, 55, 56, 57, 58, 59, 60, 61, 62, 63, 64, 65, 66, 67, 68, 69, 70, 71, 72, 73, 74, 75, 76, 77, 78, 79, 80, 81, 82, 83, 84, 85, 86, 87, 88, 89, 90, 91, 92, 93, 94, 95, 96]
def menu2 : List Nat := [97, 98, 99, 100, 101, 102, 103, 104, 105, 106, 107, 108, 109, 110, 111, 112, 113, 114, 115, 116, 117, 118, 119, 120, 121, 122, 123, 124, 125, 126]
theorem digit_code {n : Nat} : ∀ c ∈ (Nat.toDigits 10 n).map Char.toNat, 48 ≤ c ∧ c ≤ 57 := by
  intro c hc
  have h1 : n < 10 ^ (n + 1) := Nat.lt_trans (Nat.lt_succ_self n) (Nat.lt_pow_self (by decide))
  have h2 := figs_isD (n + 1) n
  rw [← pad_figs (n + 1) n h1 (Nat.succ_pos _)] at h2
  have h3 := List.all_eq_true.mp h2 c (List.mem_append_right _ hc)
  rw [Bool.and_eq_true, decide_eq_true_eq, decide_eq_true_eq] at h3
  exact h3
theorem zf_num (w n : Nat) : Txt.zfill (Str.ofString (toString (n : Int))) (w : Int) = S (pad w n) := by
  rw [SX.num_S, numL_eq]
  unfold Txt.zfill pad
  have hl : (S ((Nat.toDigits 10 n).map Char.toNat)).length = (Nat.toDigits 10 n).length := by rw [S_len, List.length_map]
  show (if (w : Int) ≤ (S ((Nat.toDigits 10 n).map Char.toNat)).length then S ((Nat.toDigits 10 n).map Char.toNat) else zfilled (S ((Nat.toDigits 10 n).map Char.toNat)) ((w : Int).toNat - (S ((Nat.toDigits 10 n).map Char.toNat)).length)) = _
  rw [hl]
  by_cases h : (w : Int) ≤ (Nat.toDigits 10 n).length
  · rw [if_pos h, show w - (Nat.toDigits 10 n).length = 0 by omega]
    rfl
  · rw [if_neg h, Int.toNat_natCast]
    have hd := digit_code (n := n)
    generalize (Nat.toDigits 10 n).map Char.toNat = l at hd
    generalize w - (Nat.toDigits 10 n).length = k
    have e : zfilled (S l) k = Builtin.Str.padded (S l) k 0 48 := by
      unfold zfilled
      have h0 : ∀ c, (S l).cps[0]? = some c → 48 ≤ c := fun c hc => by
        have : l[0]? = some c := by
          have e : (S l).cps = l.toArray := rfl
          rw [e] at hc
          simpa using hc
        exact (hd c (List.mem_of_getElem? this)).1
      split
      · rename_i h
        exact absurd (h0 43 h) (by decide)
      · rename_i h
        exact absurd (h0 45 h) (by decide)
      · rfl
    rw [e]
    show (⟨_⟩ : Str) = ⟨_⟩
    congr 1
    apply Array.ext'
    simp
theorem log_small {n : Nat} (h : n < 1000000) : ((n : Int).natAbs).log2 < 1920 := by
  rw [Int.natAbs_natCast]
  by_cases h0 : n = 0
  · subst h0; decide
  · exact Nat.lt_of_lt_of_le ((Nat.log2_lt h0).mpr (show n < 2 ^ 20 by omega)) (by decide)
def tv (ls : List (List Nat)) : List V := ls.map fun l => V.str (S l)
theorem tv_len (ls : List (List Nat)) : (tv ls).length = ls.length := List.length_map ..
theorem tv_app (a b : List (List Nat)) : tv (a ++ b) = tv a ++ tv b := List.map_append ..
theorem tv_eq (ls : List (List Nat)) : tv ls = (ls.map S).map V.str := by
  unfold tv
  rw [List.map_map]
  rfl
theorem take_snoc {α : Type} {xs : List α} {i : Nat} {x : α} (h : xs[i]? = some x) : xs.take (i + 1) = xs.take i ++ [x] := by
  rw [List.take_add_one, h]
  rfl
theorem pad_le {w n : Nat} (h : n < 1000000) : (pad w n).length ≤ w + 6 := by
  unfold pad
  have h1 := toDigits_len10 (w := 6) (n := n) (by omega) (by decide)
  rw [List.length_append, List.length_replicate, List.length_map]
  omega
theorem flat_le {n : Nat} : ∀ {cs : List (List Nat)}, (∀ c ∈ cs, c.length ≤ n) → cs.flatten.length ≤ n * cs.length
  | [], _ => Nat.zero_le _
  | c :: cs, h => by
    rw [List.flatten_cons, List.length_append, List.length_cons, Nat.mul_add, Nat.mul_one]
    have h1 := h c (List.mem_cons_self ..)
    have h2 := flat_le fun d hd => h d (List.mem_cons_of_mem _ hd)
    omega
theorem sz {k : Nat} (h : k ≤ 200000) : k ≤ sizeLine := Nat.le_trans h (by decide)
theorem dp_tup2 {H : Hp} {x : V} {a b : PyData} (h : Dp K H x (.tuple [a, b])) : ∃ p u v, x = .ref p ∧ SqT K H p [u, v] ∧ Dp K H u a ∧ Dp K H v b := by
  cases h with
  | tup hs ha =>
    cases ha with
    | cons h1 ha =>
      cases ha with
      | cons h2 ha =>
        cases ha
        exact ⟨_, _, _, rfl, hs, h1, h2⟩
theorem dp_tup3 {H : Hp} {x : V} {a b c : PyData} (h : Dp K H x (.tuple [a, b, c])) : ∃ p u v z, x = .ref p ∧ SqT K H p [u, v, z] ∧ Dp K H u a ∧ Dp K H v b ∧ Dp K H z c := by
  cases h with
  | tup hs ha =>
    cases ha with
    | cons h1 ha =>
      cases ha with
      | cons h2 ha =>
        cases ha with
        | cons h3 ha =>
          cases ha
          exact ⟨_, _, _, _, rfl, hs, h1, h2, h3⟩
theorem dp_str' {H : Hp} {x : V} {z : Str} (h : Dp K H x (.str z)) : x = .str z := by
  cases h
  rfl
theorem dp_int' {H : Hp} {x : V} {z : Int} (h : Dp K H x (.int z)) : x = .int z := by
  cases h
  rfl
theorem dp_tup' {H : Hp} {x : V} {ds : List PyData} (h : Dp K H x (.tuple ds)) : ∃ p us, x = .ref p ∧ SqT K H p us ∧ DpAll K H us ds := by
  cases h with
  | tup hs ha => exact ⟨_, _, rfl, hs, ha⟩
theorem all_at {α : Type} {F : α → PyData} {H : Hp} {us : List V} {xs : List α} (h : DpAll K H us (xs.map F)) {i : Nat} {x : V} (hx : us[i]? = some x) : ∃ a, xs[i]? = some a ∧ Dp K H x (F a) := by
  have hl := dpAll_len h
  rw [List.length_map] at hl
  have hi : i < xs.length := by rw [← hl]; exact (List.getElem?_eq_some_iff.mp hx).1
  obtain ⟨v, hv, hd⟩ := dpAll_get h (i := i) (by rw [List.length_map]; exact hi)
  rw [hx] at hv
  cases hv
  rw [List.getElem_map] at hd
  exact ⟨xs[i], List.getElem?_eq_getElem hi, hd⟩
def isBo : PyData → Bool | .bool _ => true | _ => false
def isIn : PyData → Bool | .bool _ => true | .int _ => true | _ => false
def isSt : PyData → Bool | .str _ => true | _ => false
def isTu : PyData → Bool | .tuple _ => true | _ => false
def isLi : PyData → Bool | .list _ => true | _ => false
def isNo : PyData → Bool | .none => true | _ => false
theorem kit_bo {H : Hp} {x : V} {d : PyData} (h : Dp K H x d) : kitB (tyName d) "bool" = some (isBo d) := by cases h <;> first | rfl | decide +kernel
theorem kit_in {H : Hp} {x : V} {d : PyData} (h : Dp K H x d) : kitB (tyName d) "int" = some (isIn d) := by cases h <;> first | rfl | decide +kernel
theorem kit_st {H : Hp} {x : V} {d : PyData} (h : Dp K H x d) : kitB (tyName d) "str" = some (isSt d) := by cases h <;> first | rfl | decide +kernel
theorem kit_tu {H : Hp} {x : V} {d : PyData} (h : Dp K H x d) : kitB (tyName d) "tuple" = some (isTu d) := by cases h <;> first | rfl | decide +kernel
theorem kit_li {H : Hp} {x : V} {d : PyData} (h : Dp K H x d) : kitB (tyName d) "list" = some (isLi d) := by cases h <;> first | rfl | decide +kernel
theorem non_d {H : Hp} {x : V} {d : PyData} (h : Dp K H x d) : decide (x = .non) = isNo d := by cases h <;> rfl
def Up (F : PyData → Prop) : PyData → Prop
  | .list ds => ds.length ≤ 100000 ∧ ∀ e ∈ ds, F e
  | .tuple ds => ds.length ≤ 100000 ∧ ∀ e ∈ ds, F e
  | d => SeqAt.shaped d = true
def Fine : Nat → PyData → Prop
  | 0 => Up fun _ => False
  | n + 1 => Up (Fine n)
def SqX (K : PySem.W.Frag) (H : Hp) (p : Addr) (xs : List V) : Prop := SqL K H p xs ∨ SqT K H p xs
theorem SqX.mono {H H' : Hp} {p : Addr} {xs : List V} (e : Same H H') (h : SqX K H p xs) : SqX K H' p xs := h.elim (fun h => .inl (e.seq h)) fun h => .inr (same_sqt e h)
theorem ix_X {H : Hp} {Q : VK} {p : Addr} {xs : List V} {i : Int} {v : V} (h : SqX K H p xs) (ha : atI xs i = some v) (q : Q v H) : rIX K (.ref p) (.int i) H Q := h.elim (fun h => ix_L h ha q) fun h => ix_T h ha q
theorem ln_X {H : Hp} {Q : VK} {p : Addr} {xs : List V} (h : SqX K H p xs) (q : Q (.int xs.length) H) : rLEN K [.ref p] H Q := h.elim (fun h => ln_l h q) fun h => ln_t h q
def numAt (l : List Nat) (a k : Nat) : Option Nat := if ((l.take (a + k)).drop a).length = k ∧ k ≠ 0 ∧ isD ((l.take (a + k)).drop a) = true then some (NumText.digitsVal ((l.take (a + k)).drop a)) else none
inductive NumV : Option Nat → V → Prop where
  | some (n : Nat) : NumV (some n) (.int n)
  | none : NumV none .non
theorem mem_fig (c : Nat) : c ∈ [48, 49, 50, 51, 52, 53, 54, 55, 56, 57] ↔ 48 ≤ c ∧ c ≤ 57 := by
  simp only [List.mem_cons, List.not_mem_nil, or_false]
  omega
theorem isD_snoc {l : List Nat} {i c : Nat} (h : l[i]? = some c) : isD (l.take (i + 1)) = (isD (l.take i) && (decide (48 ≤ c) && decide (c ≤ 57))) := by
  rw [List.take_add_one, h]
  unfold isD
  show List.all (_ ++ [c]) _ = _
  rw [List.all_append]
  simp
theorem eqv_ints (ns : List Int) : PyData.eqv (.list (ns.map PyData.int)) (.list []) = decide (ns = []) := by
  cases ns with
  | nil => rfl
  | cons n ns =>
    rw [decide_eq_false (by intro h; cases h)]
    rfl
theorem dp_strs (H : Hp) : ∀ ls : List (List Nat), DpAll K H (tv ls) (ls.map fun l => PyData.str (S l))
  | [] => .nil
  | l :: ls => .cons (.str _) (dp_strs H ls)
def AllT (ls : List (List Nat)) : Prop := ∀ l ∈ ls, isT l = true
theorem shaped_strs (ls : List (List Nat)) (h : AllT ls) : SeqAt.shaped (.list (ls.map fun l => PyData.str (S l))) = true := by
  have h1 : PyData.canLayAll0 (ls.map fun l => PyData.str (S l)) = true := by
    induction ls with
    | nil => rfl
    | cons b bs ih =>
      have hb : PyData.strOk (S b) = true := by
        unfold PyData.strOk
        rw [← Array.all_toList, S_cps, List.all_eq_true]
        intro c hc
        have := isT_mem (h b (List.mem_cons_self ..)) hc
        exact decide_eq_true (by omega)
      simp [PyData.canLayAll0, PyData.canLay0, ih fun l hl => h l (List.mem_cons_of_mem _ hl), hb]
  have h2 : PyData.depthAll (ls.map fun l => PyData.str (S l)) ≤ 1 := by
    clear h1 h
    induction ls with
    | nil => simp [PyData.depthAll]
    | cons b bs ih =>
      simp only [List.map_cons, PyData.depthAll, PyData.depth] at *
      omega
  unfold SeqAt.shaped
  rw [Bool.and_eq_true]
  refine ⟨h1, decide_eq_true ?_⟩
  simp only [PyData.depth]
  omega
theorem eqv_strs (ls : List (List Nat)) : PyData.eqv (.list (ls.map fun l => PyData.str (S l))) (.list []) = decide (ls = []) := by
  cases ls with
  | nil => rfl
  | cons n ns =>
    rw [decide_eq_false (by intro h; cases h)]
    rfl
theorem mid {A B C : List Nat} {i j : Nat} (hi : A.length = i) (hj : i + B.length = j) : ((A ++ (B ++ C)).take j).drop i = B := by
  rw [← List.append_assoc, List.take_left' (by rw [List.length_append, hi]; exact hj), List.drop_left' hi]
theorem numAt_mid {A B C : List Nat} {a k : Nat} (ha : A.length = a) (hk : B.length = k) (h0 : k ≠ 0) (hD : isD B = true) : numAt (A ++ (B ++ C)) a k = some (NumText.digitsVal B) := by
  unfold numAt
  rw [mid ha (by rw [hk]), if_pos ⟨hk, h0, hD⟩]
theorem numAt_pad {A C : List Nat} {a w n : Nat} (ha : A.length = a) (h0 : w ≠ 0) (hn : n < 10 ^ w) : numAt (A ++ (pad w n ++ C)) a w = some n := by
  rw [pad_figs w n hn (Nat.pos_of_ne_zero h0), numAt_mid ha (figs_len w n) h0 (figs_isD w n), digitsVal_figs w n hn]
theorem pad_lenW {w n : Nat} (h0 : w ≠ 0) (hn : n < 10 ^ w) : (pad w n).length = w := by
  rw [pad_figs w n hn (Nat.pos_of_ne_zero h0), figs_len]
def kv (ks : List Nat) : List V := ks.map fun k : Nat => V.int k
theorem kv_app (a b : List Nat) : kv (a ++ b) = kv a ++ kv b := List.map_append ..
theorem kv_len (a : List Nat) : (kv a).length = a.length := List.length_map ..
theorem dp_kv (H : Hp) : ∀ ks : List Nat, DpAll K H (kv ks) (ks.map fun k : Nat => PyData.int k)
  | [] => .nil
  | k :: ks => .cons (.int _) (dp_kv H ks)
theorem shaped_str {l : List Nat} (h : isT l = true) : SeqAt.shaped (.str (S l)) = true := by
  have hb : PyData.strOk (S l) = true := by
    unfold PyData.strOk
    rw [← Array.all_toList, S_cps, List.all_eq_true]
    intro c hc
    have := isT_mem h hc
    exact decide_eq_true (by omega)
  unfold SeqAt.shaped
  simp [PyData.canLay0, PyData.depth, hb]
theorem fine_str {l : List Nat} (h : isT l = true) : ∀ n, Fine n (.str (S l))
  | 0 => shaped_str h
  | _ + 1 => shaped_str h
theorem fine_int (i : Int) : ∀ n, Fine n (.int i)
  | 0 => by show SeqAt.shaped (.int i) = true; simp [SeqAt.shaped, PyData.canLay0, PyData.depth]
  | _ + 1 => by show SeqAt.shaped (.int i) = true; simp [SeqAt.shaped, PyData.canLay0, PyData.depth]
theorem fine_non : ∀ n, Fine n .none
  | 0 => by show SeqAt.shaped .none = true; simp [SeqAt.shaped, PyData.canLay0, PyData.depth]
  | _ + 1 => by show SeqAt.shaped .none = true; simp [SeqAt.shaped, PyData.canLay0, PyData.depth]
theorem fine_tup {n : Nat} {ds : List PyData} (hl : ds.length ≤ 100000) (h : ∀ e ∈ ds, Fine n e) : Fine (n + 1) (.tuple ds) := ⟨hl, h⟩
theorem fine_lst {n : Nat} {ds : List PyData} (hl : ds.length ≤ 100000) (h : ∀ e ∈ ds, Fine n e) : Fine (n + 1) (.list ds) := ⟨hl, h⟩
theorem all2 {α : Type} {F : α → Prop} {a b : α} (h1 : F a) (h2 : F b) : ∀ e ∈ [a, b], F e := fun e he => by
  rcases List.mem_cons.mp he with rfl | he
  · exact h1
  · rw [List.mem_singleton.mp he]; exact h2
theorem all3 {α : Type} {F : α → Prop} {a b c : α} (h1 : F a) (h2 : F b) (h3 : F c) : ∀ e ∈ [a, b, c], F e := fun e he => by
  rcases List.mem_cons.mp he with rfl | he
  · exact h1
  · exact all2 h2 h3 e he
theorem pad_T {w n : Nat} (h0 : w ≠ 0) (hn : n < 10 ^ w) : isT (pad w n) = true := by
  rw [pad_figs w n hn (Nat.pos_of_ne_zero h0)]
  exact isD_isT (figs_isD w n)
theorem flat_eq {n : Nat} : ∀ {cs : List (List Nat)}, (∀ c ∈ cs, c.length = n) → cs.flatten.length = n * cs.length
  | [], _ => rfl
  | c :: cs, h => by
    rw [List.flatten_cons, List.length_append, List.length_cons, Nat.mul_add, Nat.mul_one]
    have h1 := h c (List.mem_cons_self ..)
    have h2 := flat_eq fun d hd => h d (List.mem_cons_of_mem _ hd)
    omega
end
end My

set_option Elab.async false
set_option linter.all false
set_option maxRecDepth 100000
set_option maxHeartbeats 1000000
/-! ### tuples turned about; dicts that are sorted -/
namespace My
open PySem PySem.Spec PyProof.Rows L2 PySem.MeetsSeq PySem.MeetsSeq2 PySem.MeetsSeq3
theorem adjust_rev (n : Nat) : Builtin.Slice.sliceAdjust none none (-1) (n : Int) = ((n : Int) - 1, -1) := by
  unfold Builtin.Slice.sliceAdjust
  simp only [show ((-1 : Int) < 0) by decide, if_true]
theorem places_rev (n : Nat) : Builtin.Slice.slicePlaces ((n : Int) - 1) (-1) (-1) = n := by
  unfold Builtin.Slice.slicePlaces
  simp only [show ¬ ((-1 : Int) > 0) by decide, if_false, Int.neg_neg, Int.ediv_one]
  split <;> omega
theorem pick_rev (xs : Array Value) : ((List.range xs.size).filterMap fun (m : Nat) => xs[(((xs.size : Int) - 1) + (m : Int) * (-1)).toNat]?).toArray = xs.toList.reverse.toArray := by
  congr 1
  have e1 : ∀ (ms : List Nat), (∀ m ∈ ms, m < xs.size) → ms.filterMap (fun (m : Nat) => xs[(((xs.size : Int) - 1) + (m : Int) * (-1)).toNat]?) = ms.filterMap (fun (m : Nat) => xs.toList.reverse.toArray[m]?) := by
    intro ms
    induction ms with
    | nil => intro _; rfl
    | cons m ms ih =>
      intro hm
      have h3 : m < xs.size := hm m (List.mem_cons_self ..)
      have h4 : (((xs.size : Int) - 1) + (m : Int) * (-1)).toNat = xs.size - 1 - m := by omega
      have h5 : xs[(((xs.size : Int) - 1) + (m : Int) * (-1)).toNat]? = xs.toList.reverse.toArray[m]? := by
        have a1 : xs.toList.reverse.toArray[m]? = xs.toList.reverse[m]? := by simp
        have a2 : xs.toList.reverse[m]? = xs.toList[xs.toList.length - 1 - m]? := List.getElem?_reverse (by rw [Array.length_toList]; exact h3)
        rw [h4, a1, a2, Array.length_toList, Array.getElem?_toList]
      rw [List.filterMap_cons, List.filterMap_cons, h5, ih fun x hx => hm x (List.mem_cons_of_mem _ hx)]
  rw [e1 _ fun m hm => List.mem_range.mp hm]
  have e2 := pick_run xs.toList.reverse.toArray 0 xs.size
  rw [show (List.range xs.size).map (0 + ·) = List.range xs.size by simp] at e2
  rw [e2, List.drop_zero]
  show xs.toList.reverse.take xs.size = _
  exact List.take_of_length_le (by rw [List.length_reverse, Array.length_toList]; exact Nat.le_refl _)
section
variable {prog : Program} {w : World} {A : Around} {E : Value → Shared → Prop} {s : Shared}
theorem sliceApplied_rev {sl : Addr} {vs : Value} {n : Nat} {Q : Int × Int × Nat → Shared → Prop} (hs : s.heap.IsSliceOf sl .none .none vs) (ps : IsPart vs (some (-1)))
    (h : Q ((n : Int) - 1, -1, n) s) : wpAny (model prog w) A (Builtin.Slice.sliceApplied (.ref sl) (pure (n : Int))) Q E s := by
  obtain ⟨os, hos, hcs, hds⟩ := id hs
  unfold Builtin.Slice.sliceApplied Builtin.Slice.sliceFields
  refine wpAny_bind (wpAny_bind (wpAny_field hos hds (x := .none) rfl (wpAny_bind (wpAny_field hos hds (x := .none) rfl (wpAny_bind (wpAny_field hos hds (x := vs) rfl (wpAny_pure ?_)))))))
  refine wpAny_bind (HT.slicePart_ ps ?_)
  show wpAny _ _ (if ((-1 : Int) == 0) = true then _ else _) _ _ s
  rw [if_neg (by decide)]
  refine wpAny_bind (HT.slicePart_ .none (wpAny_bind (HT.slicePart_ .none (wpAny_bind (wpAny_pure ?_)))))
  show wpAny _ _ (match Builtin.Slice.sliceAdjust none none (-1) (n : Int) with | (lo, hi) => pure (lo, (-1 : Int), Builtin.Slice.slicePlaces lo hi (-1))) _ _ s
  rw [adjust_rev n]
  show wpAny _ _ (pure ((n : Int) - 1, (-1 : Int), Builtin.Slice.slicePlaces ((n : Int) - 1) (-1) (-1))) _ _ s
  rw [places_rev]
  exact wpAny_pure h
theorem getItem_tuple_rev {t sl : Addr} {items : Array Value} {vs : Value} {Q : Value → Shared → Prop} (ht : IsTup s.heap t items) (hs : s.heap.IsSliceOf sl .none .none vs) (ps : IsPart vs (some (-1)))
    (h : Q (.ref s.heap.objs.size) { s with heap := s.heap.push { cls := .type "tuple", data := .seq items.toList.reverse.toArray } })
    (hsz : items.size ≤ sizeLine) : wpAny (model prog w) A (getItem (.ref t) (.ref sl)) Q E s := by
  have htake : sizeOk (.seq items.toList.reverse.toArray) := by
    show items.toList.reverse.toArray.size ≤ sizeLine
    rw [List.size_toArray, List.length_reverse, Array.length_toList]
    exact hsz
  obtain ⟨os, hos, hcs, hds⟩ := id hs
  have hTs : s.TypeIs (.ref sl) "slice" := ⟨os, hos, hcs⟩
  unfold getItem
  try with_reducible refine wpAny_holding ?_
  first | refine wpAny_bind (wpAny_pure ?_) | skip
  refine wpAny_bind (wpAny_sequenceKey ht.typeIs (by decide) ?_)
  refine wpAny_bind (wpAny_callSpecial?_slot (name := Str.ofString "__getitem__") ht.typeIs PyProof.Rows.slot_tuple_getitem
    (wpAny_call_entry PyProof.Rows.slot_tuple_getitem ht.typeIs entry_tuple_getitem ?_ (args_tuple_getitem _ _)))
  show wpAny _ _ (Builtin.Tuple.tupleItemsOf (.ref t) >>= _) _ _ s
  refine wpAny_bind (tupleItemsOf_ ht ?_)
  refine wpAny_bind (wpAny_typeOf hTs ?_)
  rw [if_pos (by decide)]
  refine wpAny_bind (sliceApplied_rev hs ps ?_)
  have hno : ¬ ((((items.size : Int) - 1) == 0 && (-1 : Int) == 1 && items.size == items.size) = true) := by
    intro q
    rw [Bool.and_eq_true, Bool.and_eq_true] at q
    exact absurd (eq_of_beq q.1.2) (by decide)
  show wpAny _ _ (if (((items.size : Int) - 1) == 0 && (-1 : Int) == 1 && items.size == items.size) = true then _ else _) _ _ s
  rw [if_neg hno, pick_rev]
  first
    | exact wpAny_bind (m := Builtin.Tuple.tupleExact _) (wpAny_newObj_type (wpAny_pure ⟨_, rfl, wpAny_pure h⟩) htake)
    | exact wpAny_bind (m := Builtin.Tuple.tupleExact _) (wpAny_newObj_type (wpAny_bind (wpAny_pure (wpAny_pure ⟨_, rfl, wpAny_pure h⟩))) htake)
    | exact wpAny_bind (wpAny_bind (m := Builtin.Tuple.tupleExact _) (wpAny_newObj_type (wpAny_pure (wpAny_pure ⟨_, rfl, wpAny_pure h⟩)) htake))
    | exact wpAny_bind (wpAny_bind (m := Builtin.Tuple.tupleExact _) (wpAny_newObj_type (wpAny_pure ⟨_, rfl, wpAny_pure h⟩) htake))
end
/-- t[::-1] -/
def tRevT (K : PySem.W.Frag) (te : TE) : TE := fun σ H Q => te σ H fun x H1 => ∃ a xs, x = .ref a ∧ SqT K H1 a xs ∧ ∀ p, H1 p = none → Q (.ref p) (upd H1 p (.tup xs.reverse))
theorem x_revT {K : PySem.W.Frag} {σ : L2.St} {H : Hp} {Q : VK} {te : TE} (h : te σ H fun x H1 => ∃ a xs, x = .ref a ∧ SqT K H1 a xs ∧ ∀ p, H1 p = none → Q (.ref p) (upd H1 p (.tup xs.reverse))) : tRevT K te σ H Q := h
section
variable {X : Cx}
theorem pe_revT {e : Expr} {te : TE} {k : Nat} {p1 p2 p3 pos : Pos} (he : PE X e te) : PE X (.Subscript e (.Slice none none (some (.UnaryOp .USub (.Constant (.int 1) k p1) p2)) p3) pos) (tRevT X.K te) := by
  refine ⟨fun pins s σ H Q I h => ?_⟩
  refine Subscript_ (thn (he.run pins s σ H _ I h) fun v s1 ⟨x, H1, I1, r1, q1⟩ => ?_)
  obtain ⟨a, xs, ex, hx, q⟩ := q1
  subst ex
  cases r1
  have hst : PO X (some (.UnaryOp .USub (.Constant (.int 1) k p1) p2)) (tPart (tUn (rU fun i => .int (-i)) (tC (.int 1)))) := po_some (pe_un un_neg pe_int)
  refine wpAny_Slice (thn (po_none.run pins s1 σ H1 (fun o H2 => o = none ∧ H2 = H1) I1 ⟨rfl, rfl⟩) fun vl s2 ⟨l, H2, I2, pl, el, e2⟩ => ?_)
  subst el e2
  refine thn (po_none.run pins s2 σ H2 (fun o H3 => o = none ∧ H3 = H2) I2 ⟨rfl, rfl⟩) fun vu s3 ⟨u, H3, I3, pu, eu, e3⟩ => ?_
  subst eu e3
  refine thn (hst.run pins s3 σ H3 (fun o H4 => o = some (-1) ∧ H4 = H3) I3 ⟨1, rfl, -1, rfl, rfl, rfl⟩) fun vs s4 ⟨o, H4, I4, ps, eo, e4⟩ => ?_
  subst eo e4
  cases pl
  cases pu
  have I5 : Inv X pins σ H4 { s4 with heap := s4.heap.push { cls := .type "slice", data := .fields #[.none, .none, vs] } } := I4.kept (t' := s4.toks) fun b ob q => Heap.get?_push_of_some _ q
  obtain ⟨its, r, ht, hz⟩ := I5.tuple hx
  have hlen := r.length
  show wpAny (model X.prog X.w) X.A (subscriptTail e (.Slice none none (some (.UnaryOp .USub (.Constant (.int 1) k p1) p2)) p3) (.ref a) (.ref s4.heap.objs.size)) (EP X pins σ Q) X.xe { s4 with heap := s4.heap.push { cls := .type "slice", data := .fields #[.none, .none, vs] } }
  refine tail_any (ops := [.ref a, .ref s4.heap.objs.size]) ht.typeIs (PyProof.Rows.slot_tuple_getitem.lookup) ?_ (by with_unfolding_all rfl)
  refine getItem_tuple_rev ht (Heap.IsSliceOf.new _ .none .none vs) ps ?_ (by rw [List.size_toArray]; omega)
  refine ⟨.ref _, _, I5.laid (t' := s4.toks) (o := .tup xs.reverse) (fun b ob q => Heap.get?_push_of_some _ q) (Nat.le_refl _) ?_, rfl, q _ (I5.hok.fresh (Nat.le_refl _))⟩
  exact ⟨by rw [List.length_reverse]; exact hz, _, r.reverse, IsTup.new _ _⟩
/-- sorted(d), d a dict of texts -/
def rSortD : List V → Hp → VK → Prop := fun xs H Q => ∃ (a : Addr) (kvs : List (Key × V)) (ks : List Str), xs = [.ref a] ∧ Rd H a (.dK kvs) ∧ kvs.map (·.1) = ks.map Sum.inr ∧ ks.length < 64 ∧ ∀ ys p, ys.Perm ks → sortedS ys = true → H p = none → Q (.ref p) (upd H p (.lst (ys.map V.str)))
theorem call_SORTD (hc : X.calm = true) : CallR X (.builtin "sorted") rSortD := call_sortedD hc
end
section
variable {K : PySem.W.Frag} {σ : L2.St} {H : Hp} {Q : VK} {td ty tv : TE} {n b k : L2.St → Hp → Prop} {rt : VK}
theorem s_dput (h : tv σ H fun v H1 => td σ H1 fun x H2 => ty σ H2 fun y H3 => ∃ a H4, x = .ref a ∧ DPut H3 a y v H4 ∧ n σ H4) : sDPut td ty tv ⟨n, rt, b, k⟩ σ H := h
theorem x_dget (h : td σ H fun x H1 => ty σ H1 fun y H2 => ∃ a v, x = .ref a ∧ DGet H2 a y (some v) ∧ Q v H2) : tDGet td ty σ H Q := h
theorem x_dnew (h : ∀ p, H p = none → Q (.ref p) (upd H p (.dK []))) : tDNewK σ H Q := h
end
end My

set_option Elab.async false
set_option linter.all false
set_option maxRecDepth 100000
set_option maxHeartbeats 1000000
/-! ### dicts: membership, walks, comprehensions; sorted by reverse; heaps with some objects left aside -/
namespace My
open PySem PySem.Spec PyProof.Rows L2
/-! #### two texts in their order -/
theorem txt_tri : ∀ {a b : List Nat}, ¬ b < a → a ≠ b → a < b
  | [], [], _, h2 => absurd rfl h2
  | [], _ :: _, _, _ => List.nil_lt_cons ..
  | _ :: _, [], h1, _ => absurd (List.nil_lt_cons ..) h1
  | x :: a, y :: b, h1, h2 => by
    rw [List.cons_lt_cons_iff] at h1 ⊢
    by_cases hxy : x = y
    · subst hxy
      exact .inr ⟨rfl, txt_tri (fun h => h1 (.inr ⟨rfl, h⟩)) (fun h => h2 (by rw [h]))⟩
    · exact .inl (by have : ¬ y < x := fun h => h1 (.inl h); omega)
theorem txt_irr : ∀ {a : List Nat}, ¬ a < a
  | [], h => by cases h
  | x :: a, h => by
    rw [List.cons_lt_cons_iff] at h
    rcases h with h | ⟨_, h⟩
    · exact absurd h (Nat.lt_irrefl x)
    · exact txt_irr h
theorem txt_trans : ∀ {a b c : List Nat}, a < b → b < c → a < c
  | _, _, [], _, h2 => by cases h2
  | [], _, z :: c, _, _ => List.nil_lt_cons ..
  | x :: a, [], _, h1, _ => by cases h1
  | x :: a, y :: b, z :: c, h1, h2 => by
    rw [List.cons_lt_cons_iff] at h1 h2 ⊢
    rcases h1 with h1 | ⟨rfl, h1⟩
    · rcases h2 with h2 | ⟨rfl, h2⟩
      · exact .inl (Nat.lt_trans h1 h2)
      · exact .inl h1
    · rcases h2 with h2 | ⟨rfl, h2⟩
      · exact .inl h2
      · exact .inr ⟨rfl, txt_trans h1 h2⟩
def svV : Value → List Nat
  | .str x _ => x.cps.toList
  | _ => []
def ltSv (v u : Value) : Bool := decide (svV v < svV u)
theorem swo_str : SrtO.Swo ltSv := by
  refine ⟨fun x y h => ?_, fun x y z h1 h2 => ?_⟩
  · have a := of_decide_eq_true (p := svV x < svV y) h
    exact decide_eq_false (p := svV y < svV x) fun b => txt_irr (txt_trans a b)
  · have a := of_decide_eq_false (p := svV y < svV x) h1
    have b := of_decide_eq_false (p := svV z < svV y) h2
    refine decide_eq_false (p := svV z < svV x) fun c => ?_
    by_cases e : svV x = svV y
    · exact b (by rw [← e]; exact c)
    · exact b (txt_trans c (txt_tri a e))
theorem strs_memV : ∀ {vs : List Value} {ns : List Str}, StrsAre vs ns → ∀ v ∈ vs, ∃ x t, v = Value.str x t
  | _, _, .nil, v, hv => by cases hv
  | _, _, .cons x t r, v, hv => by
    rcases List.mem_cons.mp hv with e | hv
    · exact ⟨x, t, e⟩
    · exact strs_memV r v hv
section
variable {prog : Program} {w : World} {A : Around} {E : Value → Shared → Prop} {s : Shared}
theorem str_cmp {vs : List Value} {ns : List Str} (hI : StrsAre vs ns) : SrtO.Cmp prog w A s oneType' (fun p => p.1 ∈ vs) (SrtO.lt2 ltSv) := by
  intro p q hm hm'
  obtain ⟨a, t, e⟩ := strs_memV hI _ hm
  obtain ⟨b, u, e'⟩ := strs_memV hI _ hm'
  show wpAny (model prog w) A (keyLt' oneType' p.1 q.1) (fun r s' => s' = s ∧ r = ltSv p.1 q.1) (fun _ _ => False) s
  rw [e, e', keyLt'_oneType]
  exact oneLt_str ⟨rfl, rfl⟩
theorem strs_sortable {a : Addr} {vs : List Value} {ns : List Str} (hI : StrsAre vs ns) (h2 : 2 ≤ vs.length) : SrtO.SortableO prog w A s a vs ltSv := by
  intro h' _
  refine ⟨oneType', fun Q E hq => ?_, str_cmp hI⟩
  match vs, hI, h2 with
  | v1 :: v2 :: rest, hI, _ =>
    rw [keyKind_strs hI]
    exact wpAny_pure hq
  | [], _, h => exact absurd h (by decide)
  | [v], _, h => exact absurd h (by simp)
end
theorem strs_perm {vs out : List Value} {ks : List Str} (hI : StrsAre vs ks) (h : out.Perm vs) : ∃ ys : List Str, StrsAre out ys ∧ ys.Perm ks := by
  have f : ∀ {us : List Value}, (∀ u ∈ us, ∃ x t, u = Value.str x t) → StrsAre us (us.map fun u => match u with | .str x _ => x | _ => Str.empty) := by
    intro us
    induction us with
    | nil => intro _; exact .nil
    | cons u us ih =>
      intro hu
      obtain ⟨x, t, rfl⟩ := hu u (List.mem_cons_self ..)
      exact .cons x t (ih fun v hv => hu v (List.mem_cons_of_mem _ hv))
  have g : ∀ {us : List Value} {xs : List Str}, StrsAre us xs → (us.map fun u => match u with | .str x _ => x | _ => Str.empty) = xs := by
    intro us xs r
    induction r with
    | nil => rfl
    | cons x t r ih => exact congrArg (x :: ·) ih
  refine ⟨_, f fun v hv => strs_memV hI v (h.mem_iff.mp hv), ?_⟩
  have := h.map (fun u : Value => match u with | .str x _ => x | _ => Str.empty)
  rw [g hI] at this
  exact this
/-- sorted(d, reverse=b) of a dict of texts: some row of its keys -/
def rSortDR : List V → List V → Hp → VK → Prop := fun xs zs H Q => ∃ (a : Addr) (kvs : List (Key × V)) (ks : List Str) (b : Bool), xs = [.ref a] ∧ zs = [.bl b] ∧ Rd H a (.dK kvs) ∧ kvs.map (·.1) = ks.map Sum.inr ∧ ks.length < 64 ∧
    ∀ (ys : List Str) (p : Addr), ys.Perm ks → H p = none → Q (.ref p) (upd H p (.lst (ys.map V.str)))
section
variable {X : Cx}
theorem call_SORTDR (hcalm : X.calm = true) : CallRK X (.builtin "sorted") [Str.ofString "reverse"] rSortDR := by
  intro pins s σ H xs zs us ws Q I r rz q
  obtain ⟨a, kvs, ks, b, ex, rfl, hd, hks, h64, q⟩ := q
  subst ex
  obtain ⟨u, eu, rx⟩ := vals1 r
  subst eu
  cases rx
  obtain ⟨w1, rfl, e1⟩ := vals1 rz
  obtain rfl : w1 = Value.bool b := e1
  obtain ⟨z, lo, vs, rel, dd⟩ := dk_rd I.hok hd
  obtain ⟨ep, hat⟩ := dd.dictAt
  have hkeys : vs.map (·.1) = ks.map Sum.inr := rel.keys.symm.trans hks
  have hl : vs.length = ks.length := by
    have e := congrArg List.length hkeys
    rw [List.length_map, List.length_map] at e
    exact e
  have h16 : vs.length ≤ sizeLine := by rw [hl, sizeLine_eq]; omega
  show wpAny _ _ (call (.builtin "sorted") [.ref a] [(Str.ofString "reverse", .bool b)]) _ _ _
  refine call_function_entry_kw kind_sorted plain_sorted entry_sorted (PyProof.Rows.args_sorted_rev _ _) ?_
  unfold Builtin.«sorted»
  refine wpAny_bind (m := checkCount "sorted" 1 1 _) (wpAny_pure ?_)
  refine wpAny_bind (PySem.W.kdu_collect (A := X.A.in1) (PySem.W.kdl_dict (knd := mixKind X.prog X.w) (kvs := vs) (ep := ep) lo) (I.ok.hd hcalm) hat h16 fun h' tk acc hk hacc => ?_)
  have hal : acc.toList.length = ks.length := by rw [Array.length_toList, hacc.1, hl]
  have hS : StrsAre acc.toList ks := strs_at hal fun j v e => by
    obtain ⟨k, x, e1, e2⟩ := hacc.2 j v (by rw [← Array.getElem?_toList]; exact e)
    have e3 : (vs.map (·.1))[j]? = some k := by rw [List.getElem?_map, e1]; all_goals rfl
    rw [hkeys, List.getElem?_map] at e3
    cases e4 : ks[j]? with
    | none => rw [e4] at e3; cases e3
    | some y =>
      rw [e4] at e3
      have e5 : Sum.inr y = k := Option.some.inj e3
      subst e5
      obtain ⟨t, ev⟩ := Value.isStrOf_shape (x := y) (v := v) e2
      exact ⟨y, t, rfl, ev⟩
  have I1 : Inv X pins σ H { s with heap := h', toks := tk } := I.kept hk
  refine wpAny_bind (wpAny_newList ?_ (by rw [hal, sizeLine_eq]; omega))
  have hoL : (h'.push (seqObj "list" acc.toList.toArray 0)).get? h'.objs.size = some (seqObj "list" acc.toList.toArray 0) := Heap.get?_push_size _ rfl
  show wpAny _ _ _ _ _ { s with heap := h'.push (seqObj "list" acc.toList.toArray 0), toks := tk }
  have hz : acc.toList.length ≤ sizeLine := by rw [hal, sizeLine_eq]; omega
  refine wpAny_bind (wpAny_holding (wpAny_call_entry_kw slot_list_sort ⟨_, hoL, rfl⟩ entry_list_sort ?_ (PyProof.Rows.args_list_sort_rev _ _)))
  refine SrtR.list_sort_ordR (s := { s with heap := h'.push (seqObj "list" acc.toList.toArray 0), toks := tk }) swo_str hoL hz (fun h2 => strs_sortable hS h2) fun out hs hb => ⟨_, rfl, ?_⟩
  have hp2 : (if b = true then out.toArray.reverse else out.toArray).toList.Perm acc.toList := by
    cases b with
    | true =>
      show (out.toArray.reverse).toList.Perm _
      rw [Array.toList_reverse]
      exact ((List.reverse_perm _).trans (show out.Perm acc.toList.reverse from hb.perm)).trans (List.reverse_perm _)
    | false => exact hb.perm
  obtain ⟨ys, g1, g2⟩ := strs_perm hS hp2
  obtain ⟨e', he'⟩ := PyProof.Rows.sortedHeap_at (vs := acc.toList) (out := (if b = true then out.toArray.reverse else out.toArray)) hoL
  have hlen : (ys.map V.str).length ≤ sizeLine := by
    rw [List.length_map, g2.length_eq]
    exact Nat.le_trans (Nat.le_of_lt h64) (by decide)
  refine wpAny_pure ⟨_, rfl, .ref h'.objs.size, upd H h'.objs.size (.lst (ys.map V.str)), I1.laid (t' := tk) (fun b u e => ?_) (Nat.le_refl _)
    (show ObjOk X.prog X.w _ _ _ (.lst (ys.map V.str)) from ⟨hlen, (if b = true then out.toArray.reverse else out.toArray).toList, e', vals_of_strs g1, by rw [Array.toArray_toList]; exact he'⟩), rfl, q ys _ g2 (I1.hok.fresh (Nat.le_refl _))⟩
  have hb : b < h'.objs.size := Heap.lt_size e
  rw [PyProof.Rows.sortedHeap_old (Nat.ne_of_lt hb) (by rw [size_push']; exact Nat.lt_succ_of_lt hb)]
  exact Heap.get?_push_of_some _ e
end
/-! #### readings -/
section
variable {K : PySem.W.Frag} {σ : L2.St} {H : Hp} {Q : VK} {td ty te : TE} {g : TG} {tt : TT} {ws : List Nat}
theorem x_din (h : ty σ H fun y H1 => td σ H1 fun x H2 => ∃ a o, x = .ref a ∧ DGet H2 a y o ∧ Q (.bl o.isSome) H2) : tDIn ty td σ H Q := h
theorem x_dnotin (h : ty σ H fun y H1 => td σ H1 fun x H2 => ∃ a o, x = .ref a ∧ DGet H2 a y o ∧ Q (.bl (!o.isSome)) H2) : tDNotIn ty td σ H Q := h
theorem x_lockE {t : TE} {d : Addr} {u : HO} (hd : H d = some u) (hm : Mut (some u)) (h : ∀ od, t σ (upd H d (.frz od u)) fun v H' => H' d = some (.frz od u) ∧ Q v (upd H' d u)) : tLockE t σ H Q := ⟨d, u, hd, hm, h⟩
theorem lcK_mk {i : Nat} {d : Addr} {o : Obj} {kvs : List (Key × V)} (hi : σ[i]? = some (some (.ref d))) (hk : H d = some (.frz o (.dK kvs))) (Pv : Addr → Nat → Hp → Prop) (h0 : ∀ D, H D = none → Pv D 0 (upd H D (.lst [])))
    (hl : ∀ D i H', H D = none → Pv D i H' → H' d = some (.frz o (.dK kvs)))
    (hs : ∀ D i k v H', H D = none → kvs[i]? = some (k, v) → Pv D i H' → g (kV k) (wipe σ ws) H' fun σ2 H2 => wipe σ2 ws = wipe σ ws ∧ tt σ2 H2 fun b H3 => if b = true then te σ2 H3 fun y H4 => ∃ acc, H4 D = some (.lst acc) ∧ acc.length < sizeLine ∧ Pv D (i + 1) (upd H4 D (.lst (acc ++ [y]))) else Pv D (i + 1) H3)
    (hd : ∀ D H', H D = none → Pv D kvs.length H' → Q (.ref D) H') : tLc (iKeys (tVar i)) g tt te ws σ H Q := by
  refine ⟨.ref d, hi, d, o, rfl, .inl ⟨kvs, hk, fun D hD => ⟨fun i m H' => m = kvs.length - i ∧ i ≤ kvs.length ∧ Pv D i H', ⟨kvs.length, by simp, Nat.zero_le _, h0 D hD⟩, ?_⟩⟩⟩
  rintro i m H' ⟨rfl, hi, p⟩
  have q := hl D i H' hD p
  by_cases hlt : i < kvs.length
  · refine .inr ⟨⟨q, hlt⟩, Pv D (i + 1), fun H2 p' => ⟨kvs.length - (i + 1), by omega, rfl, hlt, p'⟩, fun x H2 y => ?_⟩
    obtain ⟨rfl, k, v, e, rfl⟩ := y
    exact hs D i k v _ hD e p
  · have e : i = kvs.length := by omega
    subst e
    exact .inl ⟨⟨q, Nat.le_refl _⟩, hd D H' hD p⟩
/-- a dict comprehension over a tuple or a list -/
theorem dcT_mk {tk tv : TE} {a : Addr} {xs : List V} (hm : ∀ R : V → Hp → Prop, R (.ref a) H → td σ H R) (hx : SqT K H a xs) (Pv : Addr → Nat → Hp → Prop) (h0 : ∀ D, H D = none → Pv D 0 (upd H D (.dK [])))
    (hl : ∀ D i H', H D = none → Pv D i H' → SqT K H' a xs)
    (hs : ∀ D i x H', H D = none → xs[i]? = some x → Pv D i H' → g x (wipe σ ws) H' fun σ2 H2 => wipe σ2 ws = wipe σ ws ∧ tt σ2 H2 fun b H3 => if b = true then tk σ2 H3 fun y H4 => tv σ2 H4 fun z H5 => ∃ kvs k, y = kV k ∧ H5 D = some (.dK kvs) ∧ kvs.length < sizeLine ∧ Pv D (i + 1) (upd H5 D (.dK (putK kvs k z))) else Pv D (i + 1) H3)
    (hd : ∀ D H', H D = none → Pv D xs.length H' → Q (.ref D) H') : tDc (iTup K td) g tt tk tv ws σ H Q := by
  refine hm _ ⟨a, rfl, ⟨xs, hx⟩, fun D hD => ⟨fun i m H' => m = xs.length - i ∧ i ≤ xs.length ∧ Pv D i H', ⟨xs.length, by simp, Nat.zero_le _, h0 D hD⟩, ?_⟩⟩
  rintro i m H' ⟨rfl, hi, p⟩
  have q := hl D i H' hD p
  by_cases hlt : i < xs.length
  · refine .inr ⟨⟨xs, xs[i], q, by simp [hlt]⟩, Pv D (i + 1), fun H2 p' => ⟨xs.length - (i + 1), by omega, rfl, hlt, p'⟩, fun x H2 y => ?_⟩
    obtain ⟨e, y⟩ := y
    subst e
    exact hs D i x _ hD (y xs q) p
  · have e : i = xs.length := by omega
    subst e
    exact .inl ⟨⟨xs, q, Nat.le_refl _⟩, hd D H' hD p⟩
theorem le_ss {i j : Str} (h : Q (.bl (!decide (j.cps.toList < i.cps.toList))) H) : rLE (.str i) (.str j) H Q := .inr ⟨i, j, rfl, rfl, h⟩
theorem any_b {p : Addr} {bs : List Bool} (hs : SqL K H p (bs.map V.bl)) (h : Q (.bl (bs.any id)) H) : rAny K [.ref p] H Q := ⟨p, bs, rfl, hs, h⟩
end
/-! #### a walk over a dict's keys, under its lock -/
section
variable {σ : L2.St} {H : Hp} {n b k : L2.St → Hp → Prop} {rt : VK} {g : TG} {p : TS}
theorem forK_mk {i : Nat} {d : Addr} {kvs : List (Key × V)} (hi : σ[i]? = some (some (.ref d))) (hd : H d = some (.dK kvs)) (Pv : Obj → Nat → L2.St → Hp → Prop) (h0 : ∀ o, Pv o 0 σ (upd H d (.frz o (.dK kvs)))) (hl : ∀ o i σ H', Pv o i σ H' → H' d = some (.frz o (.dK kvs)))
    (hs : ∀ o i k' v σ H', kvs[i]? = some (k', v) → Pv o i σ H' → g (kV k') σ H' fun σ2 H2 => p ⟨Pv o (i + 1), fun x H' => H' d = some (.frz o (.dK kvs)) ∧ rt x (upd H' d (.dK kvs)), fun σ' H' => H' d = some (.frz o (.dK kvs)) ∧ n σ' (upd H' d (.dK kvs)), Pv o (i + 1)⟩ σ2 H2)
    (he : ∀ o σ H', Pv o kvs.length σ H' → n σ (upd H' d (.dK kvs))) : tLock (tFor (iKeys (tVar i)) g p) ⟨n, rt, b, k⟩ σ H := by
  refine ⟨d, .dK kvs, hd, True.intro, fun o => ?_⟩
  refine ⟨.ref d, hi, d, o, rfl, .inl ⟨kvs, upd_same, ?_⟩⟩
  refine ⟨fun i m σ' H' => m = kvs.length - i ∧ i ≤ kvs.length ∧ Pv o i σ' H', ⟨kvs.length, by simp, Nat.zero_le _, h0 o⟩, ?_⟩
  rintro i m σ' H' ⟨rfl, hi, pv⟩
  have q := hl o i σ' H' pv
  by_cases hlt : i < kvs.length
  · refine .inr ⟨⟨q, hlt⟩, Pv o (i + 1), fun σ2 H2 p' => ⟨kvs.length - (i + 1), by omega, rfl, hlt, p'⟩, fun x H2 y => ?_⟩
    obtain ⟨rfl, k', v, e, rfl⟩ := y
    exact hs o i k' v σ' _ e pv
  · have e : i = kvs.length := by omega
    subst e
    exact .inl ⟨⟨q, Nat.le_refl _⟩, q, he o σ' H' pv⟩
end
/-! #### a heap with some objects left aside -/
def ms (L : List Addr) (H : Hp) : Hp := fun x => if x ∈ L then none else H x
section
variable {K : PySem.W.Frag} {L : List Addr} {H H' : Hp}
theorem ms_le : Same (ms L H) H := fun x o h => by
  unfold ms at h
  by_cases e : x ∈ L
  · rw [if_pos e] at h; cases h
  · rwa [if_neg e] at h
theorem ms_at {x : Addr} {o : HO} (e : x ∉ L) (h : H x = some o) : ms L H x = some o := by
  unfold ms
  rw [if_neg e]
  exact h
theorem ms_out {x : Addr} {o : HO} (h : ms L H x = some o) : x ∉ L := fun e => by
  unfold ms at h
  rw [if_pos e] at h
  cases h
theorem ms_mono (h : ∀ x o, x ∉ L → H x = some o → H' x = some o) : Same (ms L H) (ms L H') := fun x o e => ms_at (ms_out e) (h x o (ms_out e) (ms_le _ _ e))
theorem ms_same (h : Same H H') : Same (ms L H) (ms L H') := ms_mono fun x o _ e => h x o e
theorem ms_new {p : Addr} {o : HO} (h : H p = none) : Same (ms L H) (ms L (upd H p o)) := ms_same (same_upd h)
theorem ms_upd {p : Addr} {o : HO} (h : p ∈ L) : Same (ms L H) (ms L (upd H p o)) := ms_mono fun x u hx e => by
  rw [upd_ne (fun z => hx (by rw [z]; exact h))]
  exact e
theorem ms_frm {s g : Addr} (hs : s ∈ L) (hg : g ∈ L) (h : Frm s g H H') : Same (ms L H) (ms L H') := ms_mono fun x o hx e => h x o (fun z => hx (z ▸ hs)) (fun z => hx (z ▸ hg)) e
/-- what is in the list is no tuple -/
def NoT : HO → Prop
  | .tup _ => False
  | .frz _ (.tup _) => False
  | _ => True
def NoL : HO → Prop
  | .lst _ => False
  | .frz _ (.lst _) => False
  | _ => True
theorem ms_sqt {a : Addr} {xs : List V} (hL : ∀ x ∈ L, ∀ o, H x = some o → NoT o) (h : SqT K H a xs) : SqT K (ms L H) a xs := by
  have off : ∀ o, H a = some o → ¬ NoT o → a ∉ L := fun o e z y => z (hL a y o e)
  rcases h with (h | ⟨o, h⟩) | h
  · exact .inl (.inl (ms_at (off _ h fun z => z) h))
  · exact .inl (.inr ⟨o, ms_at (off _ h fun z => z) h⟩)
  · exact .inr h
mutual
/-- data without lists and dicts -/
def tupD : PyData → Bool
  | .tuple ds => tupDs ds
  | .list _ => false
  | .dict _ => false
  | _ => true
def tupDs : List PyData → Bool
  | [] => true
  | d :: ds => tupD d && tupDs ds
end
mutual
theorem ms_dp (hL : ∀ x ∈ L, ∀ o, H x = some o → NoT o) : ∀ (d : PyData) (v : V), tupD d = true → Dp K H v d → Dp K (ms L H) v d
  | _, _, _, .non => .non
  | _, _, _, .bl b => .bl b
  | _, _, _, .int i => .int i
  | _, _, _, .str x => .str x
  | .list ds, _, z, .lst h a => by rw [tupD] at z; cases z
  | .tuple ds, _, z, .tup h a => .tup (ms_sqt hL h) (ms_dps hL ds _ (by rw [tupD] at z; exact z) a)
theorem ms_dps (hL : ∀ x ∈ L, ∀ o, H x = some o → NoT o) : ∀ (ds : List PyData) (vs : List V), tupDs ds = true → DpAll K H vs ds → DpAll K (ms L H) vs ds
  | _, _, _, .nil => .nil
  | d :: ds, v :: vs, z, .cons h t => by
    rw [tupDs, Bool.and_eq_true] at z
    exact .cons (ms_dp hL d v z.1 h) (ms_dps hL ds vs z.2 t)
end
theorem tupDs_of : ∀ {ds : List PyData}, (∀ d ∈ ds, tupD d = true) → tupDs ds = true
  | [], _ => by rw [tupDs]
  | d :: ds, h => by rw [tupDs, h d (List.mem_cons_self ..), tupDs_of fun e he => h e (List.mem_cons_of_mem _ he)]; rfl
/-- data that stands in a part of the heap stands in the whole -/
theorem ms_un {d : PyData} {v : V} (h : Dp K (ms L H) v d) : Dp K H v d := dp_mono ms_le _ _ h
end
end My

set_option Elab.async false
set_option linter.all false
set_option maxRecDepth 100000
set_option maxHeartbeats 200000
/-! MyH: enumerate(tuple, start=k). -/
namespace My
open PySem PySem.Spec PyProof.Rows L2
/-- the tuple at a, each item in a new pair with its number, from k on -/
def Iten (K : PySem.W.Frag) (k : Int) (a : Addr) : It :=
  ⟨fun i H => ∃ (xs : List V) (x : V), SqT K H a xs ∧ xs[i]? = some x, fun i H v H' => ∃ T x, v = .ref T ∧ H T = none ∧ H' = upd H T (.tup [.int (k + (i : Nat)), x]) ∧ ∀ xs, SqT K H a xs → xs[i]? = some x, fun i H => ∃ xs : List V, SqT K H a xs ∧ xs.length ≤ i⟩
section
variable {M : Model} {A : Around} {E : Value → Shared → Prop} {s : Shared} {env : Env}
theorem callWith_type_kwT {pos : Pos} {T : String} {first : List Value} {args : List (Bool × Sem Value)} {keywords : List (Option Str × Sem Value)} {Q : Value → Shared → Prop} (hplain : args.any (·.1) = false) (hkw : keywords.any (·.1.isNone) = false)
    (h : wpAny M A (evalArgs (.type T) true args keywords) (fun a s₁ => wpAny M A (call (.type T) (first ++ a.pos) a.kw) Q E s₁) E s) :
    wpAny M A (callWith pos (.type T) first args keywords) Q E s := by
  unfold callWith
  refine wpAny_bind (wpAny_holding (wpAny_mono h (fun a s₁ h₁ => wpAny_bind (wpAny_standAt ?_)) fun _ _ x => x))
  simp only [hplain, hkw, Bool.or_false]
  refine wpAny_bind (wpAny_pure ?_)
  exact wpAny_bind (wpAny_mono h₁ (fun r s₂ hr => wpAny_bind (wpAny_holding (wpAny_point (wpAny_pure hr)))) fun _ _ x => x)
theorem callWith_kwT {pos : Pos} {T : String} {e : Expr} {rest : List Expr} {kws : List Keyword} {Q : Value → Shared → Prop}
    (h : wpAny M A (spliced (backTo pos (starEach (e :: rest) env))) (fun vs s₁ => wpAny M A (evalAll ((backToKw pos (keywordEach kws env)).map (·.2)))
      (fun kvs s₂ => wpAny M A (call (.type T) vs (((backToKw pos (keywordEach kws env)).filterMap (·.1)).zip kvs)) Q E s₂) E s₁) E s)
    (he : backTo pos (starEach (e :: rest) env) = (false, eval e env) :: backTo pos (starEach rest env))
    (hplain : (backTo pos (starEach (e :: rest) env)).any (·.1) = false)
    (hall : (backToKw pos (keywordEach kws env)).all (·.1.isSome) = true)
    (hkw : (backToKw pos (keywordEach kws env)).any (·.1.isNone) = false) :
    wpAny M A (callWith pos (.type T) [] (backTo pos (starEach (e :: rest) env)) (backToKw pos (keywordEach kws env))) Q E s := by
  refine callWith_type_kwT hplain hkw ?_
  rw [he] at h ⊢
  exact evalArgs_kwB hall h
end
theorem enum_end_tup {prog : Program} {w : World} {A : Around} {E : Value → Shared → Prop} {s : Shared} {e it t : Addr} {i : Nat} {c : Int} {items : Array Value} {old : Value} {Q : Option Value → Shared → Prop} (hh : A.handled = none)
    (he : IsEnum s.heap e it c old) (hit : s.heap.IsTupleIter it t i) (ht : s.heap.IsTuple t items) (hx : items[i]? = none)
    (hQ : ∀ h', Heap.ExtBut it s.heap h' → Q none { s with heap := h' }) : wpAny (model prog w) A (pyNext (.ref e)) Q E s := by
  have hT : s.TypeIs (.ref e) "enumerate" := ⟨_, he, rfl⟩
  unfold pyNext
  refine wpAny_bind (wpAny_attempt (wpAny_callSpecial?_slot (name := Str.ofString "__next__") hT F.slot_enumerate_next
    (wpAny_call_entry F.slot_enumerate_next hT F.entry_enumerate_next ?_ (F.args_enumerate_next_1 _))))
  show wpAny _ _ (field (.ref e) 2 >>= _) _ _ _
  refine wpAny_bind (wpAny_field he rfl (x := .ref it) rfl ?_)
  refine wpAny_bind (wpAny_nextOf_tuple_end hh hit ht hx fun h' x he' hx' => ?_)
  obtain ⟨o, ho, hc⟩ := hx'
  refine wpAny_bind (wpAny_isInstance (T := "StopIteration") (b := true) ⟨o, ho, hc⟩ isSubtype_stop ?_)
  exact wpAny_pure (hQ _ he')
theorem turn_enumS {P : Program} {w : World} {K : PySem.W.Frag} {elts : List Expr} {kk : Nat} {tpos : Pos} (k : Int) (a e it : Addr) :
    Turn P w K (.Tuple elts kk tpos) (Iten K k a) [e, it] e (fun i h => (∃ old, IsEnum h e it (k + ((i : Nat) : Int)) old) ∧ h.IsTupleIter it a i ∧ e ≠ it) where
  mem := by simp
  obj := fun i h st b hb => by
    obtain ⟨⟨old, he⟩, ⟨o, ho, hc, hd⟩, _⟩ := st
    have e' : b = e ∨ b = it := by simpa using hb
    rcases e' with z | z
    · rw [z]; exact ⟨_, he, fun v q => nomatch q⟩
    · rw [z]; exact ⟨o, ho, fun v q => by rw [hd] at q; cases q⟩
  keep := fun i h h' st k => let ⟨⟨old, he⟩, hi, hne⟩ := st; ⟨⟨old, k e (by simp) _ he⟩, hi.at fun o q => k it (by simp) o q, hne⟩
  item := by
    intro X hP hw hK hc i pins s σ H E I hf st hg
    subst hP hw hK
    obtain ⟨⟨old, he⟩, hit, hne⟩ := st
    obtain ⟨xs, x, hq, hx⟩ := hg
    obtain ⟨its, rv, p, hz⟩ := I.tuple hq
    obtain ⟨u, hu, ru⟩ := rv.get hx
    have p' : s.heap.IsTuple a its.toArray := p
    have hel : e < s.heap.objs.size := Heap.lt_size he
    have hil : it < s.heap.objs.size := by obtain ⟨_, q, _⟩ := hit; exact Heap.lt_size q
    have hai : a ≠ it := by
      rintro rfl
      obtain ⟨o1, e1, c1, d1⟩ := hit
      obtain ⟨o2, e2, c2, _⟩ := p'
      rw [e1] at e2
      cases e2
      rw [c1] at c2
      injection c2 with z
      exact absurd z (by decide)
    have hae : e ∉ [it, a] := by
      intro z
      have z' : e = it ∨ e = a := by simpa using z
      rcases z' with z | z
      · exact hne z
      · subst z
        obtain ⟨o2, e2, c2, _⟩ := p'
        have he' : s.heap.get? e = _ := he
        rw [he'] at e2
        cases e2
        injection c2 with z
        exact absurd z (by decide)
    have hlt : i < its.toArray.size := by
      have := (List.getElem?_eq_some_iff.mp hu).1
      simpa using this
    refine wpAny_pyNext_enum_itemC (Draws.tuple (prog := X.prog) (w := X.w) (A := X.A.in1) (I.ok.hd hc) it a hai its.toArray) he ⟨hit, p'⟩ hlt hne hae fun x1 h' tk hx1 ho st' hT hsz hk => ?_
    have hxu : x1 = u := by
      have e1 : its.toArray[i]? = some u := by simpa using hu
      rw [e1] at hx1
      exact (Option.some.inj hx1).symm
    subst hxu
    refine ⟨_, rfl, wpAny_letOwnedTupleGo_enum (s := { s with heap := h', toks := tk + 1 }) ho fun h'' he' sb => ?_⟩
    have hT2 : h''.get? s.heap.objs.size = some { cls := .type "tuple", data := .seq #[.int (k + (i : Nat)) tk, x1] } := (sb.2 _ (Nat.ne_of_gt hel)).trans hT
    have new : ObjOk X.prog X.w (upd H s.heap.objs.size (.tup [.int (k + (i : Nat)), x])) h'' s.heap.objs.size (.tup [.int (k + (i : Nat)), x]) :=
      ⟨by show 2 ≤ sizeLine; decide, [.int (k + (i : Nat)) tk, x1], .cons ⟨_, rfl⟩ (.cons ru .nil), ⟨_, hT2, rfl, _, rfl⟩⟩
    have I1 : Inv X pins σ (upd H s.heap.objs.size (.tup [.int (k + (i : Nat)), x])) { s with heap := h'', toks := tk + 1 } :=
      I.turnedNew (ch := [e, it]) (fun b ob hb q => (sb.2 b (fun z => hb (by simp [z]))).trans (hk b ob (fun z => hb (by simp [z])) (fun z => hb (by simp [z])) q)) hf (Nat.le_refl _) new
    refine ⟨.ref s.heap.objs.size, _, I1, rfl, ⟨_, x, rfl, I.hok.fresh (Nat.le_refl _), rfl, fun ys hy => by rw [I.tuple_inj hy hq]; exact hx⟩, ⟨⟨x1, ?_⟩, st'.1.at fun o q => (sb.2 it (Ne.symm hne)).trans q, hne⟩, fun b hb => ?_⟩
    · have e1 : k + ((i + 1 : Nat) : Int) = k + (i : Int) + 1 := by omega
      rw [e1]; exact he'
    · have hb' : b < s.heap.objs.size := by
        have e' : b = e ∨ b = it := by simpa using hb
        rcases e' with z | z
        · rw [z]; exact hel
        · rw [z]; exact hil
      rw [upd_ne (Nat.ne_of_lt hb')]
      exact (hf b hb).1
  done := by
    intro X hP hw hK hc i pins s σ H E I hf st hg
    subst hP hw hK
    obtain ⟨⟨old, he⟩, hit, hne⟩ := st
    obtain ⟨xs, hq, hx⟩ := hg
    obtain ⟨its, rv, p, hz⟩ := I.tuple hq
    obtain ⟨f0, f1, f2, f3, f4, f5⟩ := hf it (by simp)
    have hl := rv.length
    have p' : s.heap.IsTuple a its.toArray := p
    have hai : a ≠ it := by
      rintro rfl
      obtain ⟨o1, e1, c1, d1⟩ := hit
      obtain ⟨o2, e2, c2, _⟩ := p'
      rw [e1] at e2
      cases e2
      rw [c1] at c2
      injection c2 with z
      exact absurd z (by decide)
    exact enum_end_tup (I.ok.hd hc) he hit p' (by simp; omega) fun h' eb => ⟨rfl, I.turned (t' := s.toks) (fun b o hb q => eb b o hb q) f0 f1 f3 f4 f5⟩
  self := fun A i s Q E st h => let ⟨⟨_, he⟩, _⟩ := st; wpAny_pyIter_enum he h
def iEnumS (K : PySem.W.Frag) (ta tk : TA) : TI := fun σ H R => ta σ H fun vs H1 => tk σ H1 fun zs H2 => ∃ a xs k, vs = [.ref a] ∧ zs = [.int k] ∧ -(2 ^ 63) ≤ k ∧ k < 2 ^ 63 ∧ SqT K H2 a xs ∧ R (Iten K k a) H2
theorem pi_enumS {X : Cx} {e : Expr} {kws : List Keyword} {ta tk : TA} {p pos tpos : Pos} {elts : List Expr} {kk : Nat} (hg : Gl X "enumerate") (hm : X.mg "enumerate" = none) (ha : PA X [e] ta) (hk : PK X kws tk)
    (he : backTo pos (starEach [e] X.env) = (false, eval e X.env) :: backTo pos (starEach [] X.env) := by rfl) (hpl : (backTo pos (starEach [e] X.env)).any (·.1) = false := by rfl)
    (hall : (backToKw pos (keywordEach kws X.env)).all (·.1.isSome) = true := by rfl) (hnone : (backToKw pos (keywordEach kws X.env)).any (·.1.isNone) = false := by rfl) (hks : (backToKw pos (keywordEach kws X.env)).filterMap (·.1) = [Str.ofString "start"] := by rfl) :
    PI X (.Tuple elts kk tpos) (.Call (.Name "enumerate" p) [e] kws pos) (iEnumS X.K ta tk) := by
  refine ⟨fun pins s σ H R I h => ?_⟩
  refine wpAny_Call_Name_kw (ld_blt I hg hm boot_enumerate ?_)
  refine callWith_kwT (thn (ha.run pos pins s σ H _ I h) fun us s1 ⟨vs, H1, I1, r1, q1⟩ => thn (hk.run pos pins s1 σ H1 _ I1 q1) fun ws s2 ⟨zs, H2, I2, r2, q2⟩ => ?_) he hpl hall hnone
  rw [hks]
  obtain ⟨a, xs, k, ex, ez, k0, k1, hq, q⟩ := q2
  subst ex
  subst ez
  obtain ⟨u, eu, rx⟩ := vals1 r1
  subst eu
  cases rx
  obtain ⟨w1, rfl, e1⟩ := vals1 r2
  obtain ⟨t, rfl⟩ : ∃ t, w1 = Value.int k t := e1
  obtain ⟨its, rv, p', hz⟩ := I2.tuple hq
  show wpAny _ _ (call (.type "enumerate") [.ref a] [(Str.ofString "start", .int k t)]) _ _ _
  refine enum_begins_start (begins_tuple a its.toArray) (show s2.heap.IsTuple a its.toArray from p') k0 k1 fun h' he hit hsz hk => wpAny_pyIter_enum he ?_
  have I3 : Inv X pins σ H2 { s2 with heap := h' } := I2.kept (t' := s2.toks) hk
  refine ⟨s2.heap.objs.size + 1, [s2.heap.objs.size + 1, s2.heap.objs.size], _, _, H2, rfl, I3, turn_enumS k a (s2.heap.objs.size + 1) s2.heap.objs.size, ⟨⟨.none, by rw [show k + ((0 : Nat) : Int) = k by omega]; exact he⟩, ⟨_, hit, rfl, rfl⟩, Nat.succ_ne_self _⟩, fun b hb => ?_, q⟩
  have e' : b = s2.heap.objs.size + 1 ∨ b = s2.heap.objs.size := by simpa using hb
  have hle : s2.heap.objs.size ≤ b := by
    rcases e' with z | z
    · rw [z]; exact Nat.le_add_right _ _
    · rw [z]; exact Nat.le_refl _
  exact I2.fpOk hle (I2.hok.fresh hle)
end My

set_option Elab.async false
set_option linter.all false
set_option maxRecDepth 100000
set_option maxHeartbeats 1000000
/-! MyI: sorted of rows of data, dict(pairs), a tuple backwards, isinstance of a dict. -/
namespace My
open PySem PySem.Spec PyProof.Rows L2
/-- values with what they mean, in their order -/
def sortVD (us : List V) (ds : List PyData) : List (V × PyData) := (us.zip ds).mergeSort (PySem.W.dataLe false Prod.snd)
theorem dpAll_each {X : Cx} {pins : List (Addr × Obj)} {σ : St} {H : Hp} {s : Shared} (I : Inv X pins σ H s) : ∀ {us : List V} {ds : List PyData} {ws : List Value}, Vals us ws → DpAll X.K H us ds →
    PySem.W.EachIs (fun v (b : V × PyData) => RelV b.1 v) ws (us.zip ds) ∧ PySem.W.EachIs (fun v (b : V × PyData) => ∃ as, Reads s.heap v b.2 as) ws (us.zip ds) ∧ (us.zip ds).map Prod.snd = ds ∧ (us.zip ds).length = ds.length := by
  intro us ds ws r
  induction r generalizing ds with
  | nil => intro h; cases h; exact ⟨.nil, .nil, rfl, rfl⟩
  | cons h t ih =>
    intro q
    cases q with
    | cons d1 d2 =>
      obtain ⟨a1, a2, a3, a4⟩ := ih d2
      refine ⟨.cons h a1, .cons (Dp.reads I _ _ _ d1 h) a2, ?_, ?_⟩
      · rw [List.zip_cons_cons, List.map_cons, a3]
      · rw [List.zip_cons_cons, List.length_cons, List.length_cons, a4]
theorem each_vals {out : List Value} {bs : List (V × PyData)} (h : PySem.W.EachIs (fun v (b : V × PyData) => RelV b.1 v) out bs) : Vals (bs.map Prod.fst) out := by
  induction h with
  | nil => exact .nil
  | cons h t ih => exact .cons h ih
/-- sorted(xs) of a list of rows of data -/
def rSortVD (K : PySem.W.Frag) : List V → Hp → VK → Prop := fun xs H Q => ∃ (a : Addr) (us : List V) (ds : List PyData), xs = [.ref a] ∧ SqL K H a us ∧ DpAll K H us ds ∧ PySem.W.AllAlike ds ∧ PySem.W.Sortable ds ∧ ds.length ≤ 100000 ∧ (∀ d ∈ ds, d.depth ≤ 10) ∧
  ∀ p : Addr, H p = none → Q (.ref p) (upd H p (.lst ((sortVD us ds).map Prod.fst)))
section
variable {X : Cx}
theorem cr_sortedVD (hu : X.A.units + 64 < cLine) : CallR X (.builtin "sorted") (rSortVD X.K) := by
  intro pins s σ H vs ws Q I r h
  obtain ⟨a, us, ds, rfl, hs, hd, hal, hso, hlen, hdep, q⟩ := h
  obtain ⟨its, rv, hl, _⟩ := I.list hs
  rw [Vals.ref1 r]
  obtain ⟨e1, e2, e3, e4⟩ := dpAll_each I rv hd
  have hml : (sortVD us ds).length = ds.length := by
    unfold sortVD
    rw [List.length_mergeSort, e4]
  refine PySem.W.sorted_data hl.isList e1 e2 (by rw [e3]; exact hal) (by rw [e3]; exact hso) (by rw [e4]; exact Nat.le_trans hlen (by decide)) (fun b hb => ?_) fun out ho eo => ?_
  · have hb2 : b.2 ∈ ds := by
      rw [← e3]
      exact List.mem_map.mpr ⟨b, hb, rfl⟩
    have := hdep _ hb2
    omega
  · obtain ⟨ep, he'⟩ := PyProof.Rows.sortedAll_at s.heap its out.toArray
    have hl2 : ((sortVD us ds).map Prod.fst).length ≤ sizeLine := by
      rw [List.length_map, hml]
      exact Nat.le_trans hlen (by decide)
    exact ⟨.ref _, upd H (s.heap.objs.size + 1) (.lst ((sortVD us ds).map Prod.fst)), I.laid (t' := s.toks) (fun _ _ => PyProof.Rows.sortedAll_old) (Nat.le_succ _) ⟨hl2, out, ep, each_vals eo, he'⟩, rfl, q _ (I.hok.fresh (Nat.le_succ _))⟩
end
/-! dict(pairs) -/
/-- references to pairs of a key and a value -/
inductive PairsV (K : PySem.W.Frag) (H : Hp) : List V → List (Key × V) → Prop
  | nil : PairsV K H [] []
  | cons {T : Addr} {us : List V} {k : Key} {x : V} {kvs : List (Key × V)} : SqT K H T [kV k, x] → PairsV K H us kvs → PairsV K H (V.ref T :: us) ((k, x) :: kvs)
theorem prs_of {X : Cx} {pins : List (Addr × Obj)} {σ : St} {H : Hp} {s : Shared} (I : Inv X pins σ H s) : ∀ {us : List V} {kvs : List (Key × V)} {its : List Value}, Vals us its → PairsV X.K H us kvs →
    ∃ (ps : List (Value × Value)) (ts : List Addr) (rs : List (Key × Value)), ps.length = kvs.length ∧ its.length = kvs.length ∧ rs.length = kvs.length ∧ KV kvs rs ∧
      (∀ (j : Nat) (k v : Value), ps[j]? = some (k, v) → its[j]? = some (Value.ref ((ts[j]?).getD 0)) ∧ PairAt s.heap ((ts[j]?).getD 0) k v) ∧ (∀ (j : Nat) (k v : Value), ps[j]? = some (k, v) → ∃ q, rs[j]? = some (q, v) ∧ (mixKind X.prog X.w).is q k = true) := by
  intro us kvs its r
  induction r generalizing kvs with
  | nil =>
    intro h
    cases h
    exact ⟨[], [], [], rfl, rfl, rfl, .nil, (fun j k v h => by cases h), (fun j k v h => by cases h)⟩
  | @cons u w us its h t ih =>
    intro q
    cases q with
    | @cons T us' k x kvs' hT hr =>
      obtain ⟨ps, ts, rs, e1, e2, e3, e4, e5, e6⟩ := ih hr
      cases (show w = Value.ref T from h)
      obtain ⟨its', rv, p, _⟩ := I.tuple hT
      cases rv with
      | @cons _ w1 _ _ r1 r2 =>
        cases r2 with
        | @cons _ w2 _ _ r2 r3 =>
          cases r3
          refine ⟨(w1, w2) :: ps, T :: ts, (k, w2) :: rs, by rw [List.length_cons, List.length_cons, e1], by rw [List.length_cons, List.length_cons, e2], by rw [List.length_cons, List.length_cons, e3], .cons ⟨rfl, r2⟩ e4, fun j a b hj => ?_, fun j a b hj => ?_⟩
          · cases j with
            | zero =>
              cases hj
              exact ⟨rfl, .inl p⟩
            | succ j => exact e5 j a b hj
          · cases j with
            | zero =>
              cases hj
              exact ⟨k, rfl, kV_is r1⟩
            | succ j => exact e6 j a b hj
def rDictP (K : PySem.W.Frag) : List V → Hp → VK → Prop := fun xs H Q => ∃ (a : Addr) (us : List V) (kvs : List (Key × V)), xs = [.ref a] ∧ SqL K H a us ∧ PairsV K H us kvs ∧ kvs.length ≤ 100000 ∧ ∀ p : Addr, H p = none → Q (.ref p) (upd H p (.dK (mergeK [] kvs)))
section
variable {X : Cx}
theorem cr_dictP (hcalm : X.calm = true) : CallR X (.type "dict") (rDictP X.K) := by
  intro pins s σ H vs ws Q I r h
  obtain ⟨a, us, kvs, rfl, hs, hp, hlen, q⟩ := h
  obtain ⟨its, rv, hl, _⟩ := I.list hs
  rw [Vals.ref1 r]
  obtain ⟨ps, ts, rs, e1, e2, e3, e4, e5, e6⟩ := prs_of I rv hp
  refine call_dict_pairs (knd := mixKind X.prog X.w) (kvs := rs) (PairArg.list a its.toArray (fun j => (ts[j]?).getD 0) ps) (I.ok.hd hcalm) ⟨hl, by rw [List.size_toArray, e1, e2], fun j k v hj => ⟨by simpa using (e5 j k v hj).1, (e5 j k v hj).2⟩⟩ ⟨by rw [e3, e1], fun j k v hj => e6 j k v hj⟩ (by rw [e1]; exact Nat.le_trans hlen (by decide)) fun h' tk hd hk => ?_
  have hz : (mergeK [] kvs).length ≤ sizeLine := by
    have h1 := length_mergeK kvs []
    rw [List.length_nil] at h1
    exact Nat.le_trans h1 (Nat.le_trans (show 0 + kvs.length ≤ 100000 by omega) (by decide))
  exact ⟨.ref _, upd H s.heap.objs.size (.dK (mergeK [] kvs)), I.laid (t' := tk) (fun b o e => hk b o (fun z => by cases z) e) (Nat.le_refl _) (dk_new hz (beq_eq_false_iff_ne.mpr (Ne.symm (Nat.ne_of_lt I.big))) (e4.merge .nil) hd), rfl, q _ (I.hok.fresh (Nat.le_refl _))⟩
end
end My

set_option Elab.async false
set_option linter.all false
set_option maxRecDepth 100000
set_option maxHeartbeats 1000000
/-! MyJ: enumerate(range(i, j, c)). -/
namespace My
open PySem PySem.Spec PyProof.Rows L2
open Sem (wp)
/-- a range at r begins -/
theorem begins_rng (r : Addr) (i j c : Int) (t u v : Tok) (hs : Builtin.Range.small i j c = true) : Begins (.ref r) { cls := .type "range_iterator", data := .fields #[rawInt i, rawInt (Builtin.Range.rangeSize i j c), rawInt c] } fun h => IsRange h r i j c t u v where
  iter := fun prog w A E s Q hl h => wpAny_pyIter_range hl hs h
  keeps := fun h h' x hk => hk r _ x
  free := rfl
theorem new_enum1 {v : Value} {o : Obj} {H : Heap → Prop} (B : Begins v o H) :
    Meets (Builtin.«enumerate.__new__» ⟨[.type "enumerate", v], []⟩) (fun _ R s => H s.heap ∧
      R (.ok (.ret (.ref (s.heap.push o).objs.size))) { s with heap := (s.heap.push o).push { cls := .type "enumerate", data := .fields #[.none, .bool false, .ref s.heap.objs.size, rawInt 0, .none, .none] } }) :=
  .of_wp fun prog w A R s hh => by
    obtain ⟨hp, gs, dr, tk, os⟩ := s
    obtain ⟨h1, h⟩ := hh
    have sub := sub_enumerate
    have begun : ∀ {A' : Around} {E : Value → Shared → Prop} {Q : Value → Shared → Prop}, Q (.ref hp.objs.size) ⟨hp.push o, gs, dr, tk, os⟩ → wpAny (model prog w) A' (pyIter v) Q E ⟨hp, gs, dr, tk, os⟩ := fun q => B.iter prog w _ _ ⟨hp, gs, dr, tk, os⟩ _ h1 q
    wp_walk using begun
    refine wpAny_stack_any fun st => wpAny_pure ?_
    split
    · rename_i c _ _ _ _ _
      cases (c == Value.type "enumerate") <;> (wp_walk using begun; exact ⟨_, rfl, h⟩)
    · wp_walk using begun
      exact ⟨_, rfl, h⟩
theorem call_enum1 {prog : Program} {w : World} {A : Around} {E : Value → Shared → Prop} {s : Shared} {v : Value} {o : Obj} {H : Heap → Prop} {Q : Value → Shared → Prop} (B : Begins v o H) (h1 : H s.heap)
    (h : ∀ h', IsEnum h' (s.heap.objs.size + 1) s.heap.objs.size 0 .none → h'.get? s.heap.objs.size = some o → (∀ b u, s.heap.get? b = some u → h'.get? b = some u) → Q (.ref (s.heap.objs.size + 1)) { s with heap := h' }) :
    wpAny (model prog w) A (call (.type "enumerate") [v]) Q E s := by
  refine callType_new F.called_enumerate (by decide) (F.typeCall_enumerate_1 _) (F.newCall_enumerate_1 _) (fun obj => F.args_object_init_2 obj _) F.entry_enumerate_new (new_enum1 B) ⟨h1, ?_⟩
  have size1 : (s.heap.push o).objs.size = s.heap.objs.size + 1 := Heap.size_push ..
  show _ ∧ _
  rw [size1]
  have laid : ((s.heap.push o).push { cls := .type "enumerate", data := .fields #[.none, .bool false, .ref s.heap.objs.size, rawInt 0, .none, .none] }).get? (s.heap.objs.size + 1) = some { cls := .type "enumerate", data := .fields #[.none, .bool false, .ref s.heap.objs.size, rawInt 0, .none, .none] } := by
    rw [← size1]
    exact Heap.get?_push_size (s.heap.push o) rfl
  exact ⟨⟨_, laid, rfl⟩, h _ laid (Heap.get?_push_of_some _ (Heap.get?_push_size _ B.free)) fun b u x => Heap.get?_push_of_some _ (Heap.get?_push_of_some _ x)⟩
section
variable {prog : Program} {w : World} {A : Around} {E : Value → Shared → Prop} {s : Shared}
theorem next_rng_item {it : Addr} {x left step : Int} {Q : Value → Shared → Prop} (hit : IsRangeIter s.heap it x left step) (hl : 0 < left)
    (hQ : ∀ h', IsRangeIter h' it (x + step) (left - 1) step → Heap.SameBut it s.heap h' → Q (.int x s.toks) { s with heap := h', toks := s.toks + 1 }) : wpAny (model prog w) A (Builtin.SmallTypes.nextOf (.ref it)) Q E s := by
  have ty : s.TypeIs (.ref it) "range_iterator" := ⟨_, hit, rfl⟩
  unfold Builtin.SmallTypes.nextOf
  refine wpAny_bind (wpAny_callSpecial?_slot (name := Str.ofString "__next__") ty F.slot_range_iterator_next (call_meets F.slot_range_iterator_next ty F.entry_range_iterator_next (F.args_range_iterator_next_1 _)
    (AutoRange.range_iterator___next___range_iterator_1 it x left step (by omega)) ⟨hit, ?_⟩))
  exact wpAny_pure (hQ _ (Heap.get?_update_self _ (Heap.get?_update_self _ hit rfl) rfl) ((Heap.SameBut.update ..).trans (Heap.SameBut.update ..)))
theorem next_rng_end {it : Addr} {x left step : Int} {Q : Value → Shared → Prop} (hh : A.handled = none) (hit : IsRangeIter s.heap it x left step) (hl : left ≤ 0)
    (hE : ∀ h' e, Heap.ExtBut it s.heap h' → (∃ o, h'.get? e = some o ∧ o.cls = .type "StopIteration") → E (.ref e) { s with heap := h' }) : wpAny (model prog w) A (Builtin.SmallTypes.nextOf (.ref it)) Q E s := by
  have ty : s.TypeIs (.ref it) "range_iterator" := ⟨_, hit, rfl⟩
  unfold Builtin.SmallTypes.nextOf
  refine wpAny_bind (wpAny_callSpecial?_slot (name := Str.ofString "__next__") ty F.slot_range_iterator_next (wpAny_call_entry F.slot_range_iterator_next ty F.entry_range_iterator_next ?_ (F.args_range_iterator_next_1 _)))
  show wpAny _ _ (field (.ref it) 0 >>= _) _ _ s
  refine wpAny_bind (wpAny_field hit rfl (x := rawInt x) rfl ?_)
  show wpAny _ _ (field (.ref it) 1 >>= _) _ _ s
  refine wpAny_bind (wpAny_field hit rfl (x := rawInt left) rfl ?_)
  show wpAny _ _ (field (.ref it) 2 >>= _) _ _ s
  refine wpAny_bind (wpAny_field hit rfl (x := rawInt step) rfl ?_)
  show wpAny _ _ (if left ≤ 0 then _ else _) _ _ s
  rw [if_pos hl]
  refine wpAny_bind (wpAny_rule (wpAny_bind ?_))
  show wpAny _ _ (newExc (.type "StopIteration") [] >>= _) _ _ _
  refine wpAny_bind ?_
  simp only [newExc, newTuple]
  refine wpAny_bind (wpAny_newObj_type ?_ (by size_fits))
  refine wpAny_bind (m := firstArgMember _ _) (wpAny_of_eq (a := Value.none) (by first | rfl | (simp only [firstArgMember]; rfl)) (wpAny_newObj_type ?_ (by size_fits)))
  simp only [raiseNew]
  refine wpAny_bind (wpAny_handled ?_)
  rw [show A.in1.handled = none from hh]
  exact wpAny_bind (wpAny_pure (wpAny_throw (hE _ _ (((Heap.ExtBut.refl it s.heap).push _).push _) ⟨_, Heap.get?_push_size _ rfl, rfl⟩)))
end
/-- what a range draws -/
theorem draws_rng {prog : Program} {w : World} {A : Around} (hh : A.handled = none) (it : Addr) (lo c : Int) (n : Nat) :
    Draws prog w A it [it] n (fun i v => ∃ t, v = .int (lo + (i : Nat) * c) t) (fun i h => IsRangeIter h it (lo + (i : Nat) * c) ((n : Int) - (i : Nat)) c) where
  live := fun _ _ st => ⟨_, st⟩
  frame := fun _ _ _ st hk => hk it (by simp) _ st
  item := fun i s Q E hi st hQ => by
    refine next_rng_item st (by omega) fun h' st' hs => hQ _ h' _ ⟨_, rfl⟩ ?_ hs
    have e1 : lo + ((i + 1 : Nat) : Int) * c = lo + (i : Nat) * c + c := by
      rw [show ((i + 1 : Nat) : Int) = (i : Nat) + 1 by omega, Int.add_mul, Int.one_mul]
      omega
    have e2 : (n : Int) - ((i + 1 : Nat) : Int) = (n : Int) - (i : Nat) - 1 := by omega
    show IsRangeIter h' it (lo + ((i + 1 : Nat) : Int) * c) ((n : Int) - ((i + 1 : Nat) : Int)) c
    rw [e1, e2]
    exact st'
  done := fun s Q E st hE => next_rng_end hh st (by omega) hE
/-- the numbers of a range, each in a new pair with its place -/
def Iter1 (lo c : Int) (n : Nat) : It :=
  ⟨fun i _ => i < n, fun i H v H' => ∃ T, v = .ref T ∧ H T = none ∧ H' = upd H T (.tup [.int (i : Nat), .int (lo + (i : Nat) * c)]), fun i _ => i = n⟩
theorem turn_enumR {P : Program} {w : World} {K : PySem.W.Frag} {elts : List Expr} {kk : Nat} {tpos : Pos} (lo c : Int) (n : Nat) (e it : Addr) :
    Turn P w K (.Tuple elts kk tpos) (Iter1 lo c n) [e, it] e (fun i h => (∃ old, IsEnum h e it ((i : Nat) : Int) old) ∧ IsRangeIter h it (lo + (i : Nat) * c) ((n : Int) - (i : Nat)) c ∧ e ≠ it) where
  mem := by simp
  obj := fun i h st b hb => by
    obtain ⟨⟨old, he⟩, hi, _⟩ := st
    have e' : b = e ∨ b = it := by simpa using hb
    rcases e' with z | z
    · rw [z]; exact ⟨_, he, fun v q => nomatch q⟩
    · rw [z]; exact ⟨_, hi, fun v q => nomatch q⟩
  keep := fun i h h' st k => let ⟨⟨old, he⟩, hi, hne⟩ := st; ⟨⟨old, k e (by simp) _ he⟩, k it (by simp) _ hi, hne⟩
  item := by
    intro X hP hw hK hc i pins s σ H E I hf st hg
    subst hP hw hK
    obtain ⟨⟨old, he⟩, hit, hne⟩ := st
    have hel : e < s.heap.objs.size := Heap.lt_size he
    have hil : it < s.heap.objs.size := Heap.lt_size hit
    refine wpAny_pyNext_enum_itemC (draws_rng (prog := X.prog) (w := X.w) (A := X.A.in1) (I.ok.hd hc) it lo c n) he hit hg hne (by simpa using hne) fun x1 h' tk hx1 ho st' hT hsz hk => ?_
    obtain ⟨t1, rfl⟩ := hx1
    refine ⟨_, rfl, wpAny_letOwnedTupleGo_enum (s := { s with heap := h', toks := tk + 1 }) ho fun h'' he' sb => ?_⟩
    have hT2 : h''.get? s.heap.objs.size = some { cls := .type "tuple", data := .seq #[.int (i : Nat) tk, .int (lo + (i : Nat) * c) t1] } := (sb.2 _ (Nat.ne_of_gt hel)).trans hT
    have new : ObjOk X.prog X.w (upd H s.heap.objs.size (.tup [.int (i : Nat), .int (lo + (i : Nat) * c)])) h'' s.heap.objs.size (.tup [.int (i : Nat), .int (lo + (i : Nat) * c)]) :=
      ⟨by show 2 ≤ sizeLine; decide, [.int (i : Nat) tk, .int (lo + (i : Nat) * c) t1], .cons ⟨_, rfl⟩ (.cons ⟨_, rfl⟩ .nil), ⟨_, hT2, rfl, _, rfl⟩⟩
    have I1 : Inv X pins σ (upd H s.heap.objs.size (.tup [.int (i : Nat), .int (lo + (i : Nat) * c)])) { s with heap := h'', toks := tk + 1 } :=
      I.turnedNew (ch := [e, it]) (fun b ob hb q => (sb.2 b (fun z => hb (by simp [z]))).trans (hk b ob (fun z => hb (by simp [z])) (fun z => hb (by simp [z])) q)) hf (Nat.le_refl _) new
    refine ⟨.ref s.heap.objs.size, _, I1, rfl, ⟨_, rfl, I.hok.fresh (Nat.le_refl _), rfl⟩, ⟨⟨.int (lo + (i : Nat) * c) t1, ?_⟩, (sb.2 it (Ne.symm hne)).trans st', hne⟩, fun b hb => ?_⟩
    · have e1 : ((i + 1 : Nat) : Int) = (i : Int) + 1 := by omega
      rw [e1]; exact he'
    · have hb' : b < s.heap.objs.size := by
        have e' : b = e ∨ b = it := by simpa using hb
        rcases e' with z | z
        · rw [z]; exact hel
        · rw [z]; exact hil
      rw [upd_ne (Nat.ne_of_lt hb')]
      exact (hf b hb).1
  done := by
    intro X hP hw hK hc i pins s σ H E I hf st hg
    subst hP hw hK
    obtain ⟨⟨old, he⟩, hit, hne⟩ := st
    have hg' : i = n := hg
    subst hg'
    obtain ⟨f0, f1, f2, f3, f4, f5⟩ := hf it (by simp)
    exact wpAny_pyNext_enum_endD (draws_rng (prog := X.prog) (w := X.w) (A := X.A.in1) (I.ok.hd hc) it lo c i) he hit fun h' eb => ⟨rfl, I.turned (t' := s.toks) (fun b o hb q => eb b o hb q) f0 f1 f3 f4 f5⟩
  self := fun A i s Q E st h => let ⟨⟨_, he⟩, _⟩ := st; wpAny_pyIter_enum he h
/-- enumerate(range(i, j, c)) -/
def iEnumR (ta : TA) : TI := fun σ H R => ta σ H fun vs H1 => ∃ (i j c : Int) (n : Nat), vs = [.int i, .int j, .int c] ∧ RgC i j c n ∧ R (Iter1 i c n) H1
theorem pi_enumR {X : Cx} {a b c : Expr} {ta : TA} {p p2 pos pos2 tpos : Pos} {elts : List Expr} {kk : Nat} (hg : Gl X "enumerate") (hm : X.mg "enumerate" = none) (hgR : Gl X "range") (hmR : X.mg "range" = none) (ha : PA X [a, b, c] ta)
    (hs : starEach [a, b, c] X.env = (false, eval a X.env) :: starEach [b, c] X.env := by rfl) (hpl : (backTo pos2 (starEach [b, c] X.env)).any (·.1) = false := by rfl)
    (h1 : starEach [.Call (.Name "range" p2) [a, b, c] [] pos2] X.env = (false, eval (.Call (.Name "range" p2) [a, b, c] [] pos2) X.env) :: starEach [] X.env := by rfl) :
    PI X (.Tuple elts kk tpos) (.Call (.Name "enumerate" p) [.Call (.Name "range" p2) [a, b, c] [] pos2] [] pos) (iEnumR ta) := by
  refine ⟨fun pins s σ H R I h => ?_⟩
  refine Call_ (ld_blt I hg hm boot_enumerate (PyProof.Rows.callWith_type1 (spliced_more (Call_ (ld_blt I hgR hmR boot_range (PyProof.Rows.callWith_type1 (thn (ha.run pos2 pins s σ H _ I h) fun us s1 ⟨vs, H1, I1, r1, q1⟩ => ?_) hs hpl))) h1) h1 rfl))
  obtain ⟨i, j, k, n, e, ⟨c0, c1, c2, c3⟩, q⟩ := q1
  subst e
  cases r1 with
  | cons r rr =>
    cases rr with
    | cons r' rr =>
      cases rr with
      | cons r'' rr =>
        cases rr
        obtain ⟨t, rfl⟩ := r
        obtain ⟨t', rfl⟩ := r'
        obtain ⟨t'', rfl⟩ := r''
        refine call_range_3 c0 (spliced_none ?_) (.inl (PyProof.noPylong_small c1))
        have I2 : Inv X pins σ H1 { s1 with heap := s1.heap.push { cls := .type "range", data := .fields #[.int i t, .int j t', .int k t''] } } := I1.kept (t' := s1.toks) fun b o e => Heap.get?_push_of_some _ e
        refine call_enum1 (begins_rng _ i j k t t' t'' c2) (IsRange.new ..) fun h' he hit hk => wpAny_pyIter_enum he ?_
        have I3 : Inv X pins σ H1 { s1 with heap := h' } := I2.kept (t' := s1.toks) hk
        refine ⟨_, [_, _], _, _, H1, rfl, I3, turn_enumR i k n _ _, ⟨⟨.none, he⟩, ?_, Nat.succ_ne_self _⟩, fun b hb => ?_, q⟩
        · have e1 : i + ((0 : Nat) : Int) * k = i := by simp
          have e2 : (n : Int) - ((0 : Nat) : Int) = Builtin.Range.rangeSize i j k := by rw [c3]; simp
          show IsRangeIter _ _ (i + ((0 : Nat) : Int) * k) ((n : Int) - ((0 : Nat) : Int)) k
          rw [e1, e2]
          exact hit
        · have e' : b = (s1.heap.push { cls := .type "range", data := .fields #[.int i t, .int j t', .int k t''] }).objs.size + 1 ∨ b = (s1.heap.push { cls := .type "range", data := .fields #[.int i t, .int j t', .int k t''] }).objs.size := by simpa using hb
          have hle : (s1.heap.push { cls := .type "range", data := .fields #[.int i t, .int j t', .int k t''] }).objs.size ≤ b := by
            rcases e' with z | z
            · rw [z]; exact Nat.le_add_right _ _
            · rw [z]; exact Nat.le_refl _
          exact I2.fpOk hle (I2.hok.fresh hle)
/-! comprehensions over enumerate -/
section
variable {K : PySem.W.Frag} {g : TG} {t : TT} {te : TE} {ws : List Nat} {σ : L2.St} {Q : VK} {H : Hp} {tr tk : TA}
def LcER (g : TG) (tt : TT) (te : TE) (ws : List Nat) (σ : L2.St) (Q : VK) (vs : List V) (H : Hp) : Prop := ∃ (i j c : Int) (n : Nat), vs = [.int i, .int j, .int c] ∧ RgC i j c n ∧ LcW (Iter1 i c n) g tt te ws σ Q H
theorem c_er (h : tr σ H fun vs H1 => LcER g t te ws σ Q vs H1) : tLc (iEnumR tr) g t te ws σ H Q := h
/-- the step is given a new pair at T -/
theorem lcER_mk {lo j c : Int} {n : Nat} (hr : RgC lo j c n) (Pv : Addr → Nat → Hp → Prop) (h0 : ∀ D, H D = none → Pv D 0 (upd H D (.lst [])))
    (hs : ∀ D (i : Nat) H' T, H D = none → i < n → Pv D i H' → H' T = none → g (.ref T) (wipe σ ws) (upd H' T (.tup [.int (i : Nat), .int (lo + (i : Nat) * c)])) fun σ2 H2 => wipe σ2 ws = wipe σ ws ∧ t σ2 H2 fun b H3 => if b = true then te σ2 H3 fun y H4 => ∃ acc, H4 D = some (.lst acc) ∧ acc.length < sizeLine ∧ Pv D (i + 1) (upd H4 D (.lst (acc ++ [y]))) else Pv D (i + 1) H3)
    (hd : ∀ D H', H D = none → Pv D n H' → Q (.ref D) H') : LcER g t te ws σ Q [.int lo, .int j, .int c] H := by
  refine ⟨lo, j, c, n, rfl, hr, fun D hD => ⟨fun i m H' => m = n - i ∧ i ≤ n ∧ Pv D i H', ⟨n, by simp, Nat.zero_le _, h0 D hD⟩, ?_⟩⟩
  rintro i m H' ⟨rfl, hi, p⟩
  by_cases hlt : i < n
  · refine .inr ⟨hlt, Pv D (i + 1), fun H2 p2 => ⟨n - (i + 1), by omega, rfl, hlt, p2⟩, fun x H2 y => ?_⟩
    obtain ⟨T, rfl, hT, rfl⟩ := y
    exact hs D i H' T hD hlt p hT
  · have e : i = n := by omega
    subst e
    exact .inl ⟨rfl, hd D H' hD p⟩
def LcES (K : PySem.W.Frag) (g : TG) (tt : TT) (te : TE) (ws : List Nat) (σ : L2.St) (Q : VK) (vs zs : List V) (H : Hp) : Prop := ∃ a xs k, vs = [.ref a] ∧ zs = [.int k] ∧ -(2 ^ 63) ≤ k ∧ k < 2 ^ 63 ∧ SqT K H a xs ∧ LcW (Iten K k a) g tt te ws σ Q H
theorem c_es (h : tr σ H fun vs H1 => tk σ H1 fun zs H2 => LcES K g t te ws σ Q vs zs H2) : tLc (iEnumS K tr tk) g t te ws σ H Q := h
theorem lcES_mk {a : Addr} {xs : List V} {k : Int} (hk : -(2 ^ 63) ≤ k ∧ k < 2 ^ 63) (hx : SqT K H a xs) (Pv : Addr → Nat → Hp → Prop) (h0 : ∀ D, H D = none → Pv D 0 (upd H D (.lst []))) (hl : ∀ D i H', H D = none → i ≤ xs.length → Pv D i H' → SqT K H' a xs)
    (hs : ∀ D (i : Nat) x H' T, H D = none → xs[i]? = some x → Pv D i H' → H' T = none → g (.ref T) (wipe σ ws) (upd H' T (.tup [.int (k + (i : Nat)), x])) fun σ2 H2 => wipe σ2 ws = wipe σ ws ∧ t σ2 H2 fun b H3 => if b = true then te σ2 H3 fun y H4 => ∃ acc, H4 D = some (.lst acc) ∧ acc.length < sizeLine ∧ Pv D (i + 1) (upd H4 D (.lst (acc ++ [y]))) else Pv D (i + 1) H3)
    (hd : ∀ D H', H D = none → Pv D xs.length H' → Q (.ref D) H') : LcES K g t te ws σ Q [.ref a] [.int k] H := by
  refine ⟨a, xs, k, rfl, rfl, hk.1, hk.2, hx, fun D hD => ⟨fun i m H' => m = xs.length - i ∧ i ≤ xs.length ∧ Pv D i H', ⟨xs.length, by simp, Nat.zero_le _, h0 D hD⟩, ?_⟩⟩
  rintro i m H' ⟨rfl, hi, p⟩
  have ha := hl D i H' hD hi p
  by_cases hlt : i < xs.length
  · refine .inr ⟨⟨xs, xs[i], ha, List.getElem?_eq_getElem hlt⟩, Pv D (i + 1), fun H2 p2 => ⟨xs.length - (i + 1), by omega, rfl, hlt, p2⟩, fun x H2 y => ?_⟩
    obtain ⟨T, x1, rfl, hT, rfl, hx1⟩ := y
    exact hs D i x1 H' T hD (hx1 xs ha) p hT
  · have e : i = xs.length := by omega
    subst e
    exact .inl ⟨⟨xs, ha, Nat.le_refl _⟩, hd D H' hD p⟩
end
/-! letters -/
def rM_isalpha : V → List V → Hp → VK → Prop := fun x xs H Q => ∃ a, x = .str a ∧ xs = [] ∧ True ∧ Q (.bl (Txt.isalpha a)) H
def rM_islower : V → List V → Hp → VK → Prop := fun x xs H Q => ∃ a, x = .str a ∧ xs = [] ∧ True ∧ Q (.bl (Txt.islower a)) H
theorem mal_s {s : Str} {H : Hp} {Q : VK} (h : Q (.bl (Txt.isalpha s)) H) : rM_isalpha (.str s) [] H Q := ⟨s, rfl, rfl, True.intro, h⟩
theorem mlo_s {s : Str} {H : Hp} {Q : VK} (h : Q (.bl (Txt.islower s)) H) : rM_islower (.str s) [] H Q := ⟨s, rfl, rfl, True.intro, h⟩
/-! name = {k: v for ..} on one line -/
section
variable {X : Cx}
theorem sw_trueD {kx vx : Expr} {gs : List Comprehension} {scope : Scope} {pos py : Pos} {y : Str} {l : Nat} {env : Env} (hk : env.scope.kind = .function) (hy : env.scope.names.lookup y = some .local) (hl : (py.line == pos.line) = true)
    (ha : (scope.names.any fun (n, k) => n == y && (k == .local || k == .cell)) = false) : swapsWith (.DictComp kx vx gs scope pos) (some (.Name y py)) l env = pure true := by
  have ky : env.kindOf y = some .local := hy
  have hb : env.blockKind = .function := by unfold Env.blockKind; rw [hk]; rfl
  unfold swapsWith
  simp only [hb, ky, ha, Expr.pos, hl]
  rfl
theorem ps_setDc {i : Nat} {y : Str} {py : Pos} {kx vx tg iter : Expr} {ifs : List Expr} {scope : Scope} {own : List (Str × Nat)} {pos spos : Pos} {wi : TI} {g : TG} {tt : TT} {tk tv : TE} (hc : X.calm = true) (hN : X.N.Nodup) (hy : X.N[i]? = some y) (hyl : X.env.scope.names.lookup y = some .local)
    (hsw : swapsWith (.DictComp kx vx [⟨tg, iter, ifs, 0⟩] scope pos) (some (.Name y py)) spos.line X.env = pure true) (hi : PI X tg iter wi) (ok : BlkOk X.N X.env.scope scope own)
    (hg : ∀ (s : Shared) (H : Hp) (C : Addr) (cl : List (Str × Addr)) (fp : List Addr), PG (X.blk s H scope (compEnvC scope cl C X.env) fp) tg g) (ht : ∀ (s : Shared) (H : Hp) (C : Addr) (cl : List (Str × Addr)) (fp : List Addr), PTs (X.blk s H scope (compEnvC scope cl C X.env) fp) ifs tt)
    (hk : ∀ (s : Shared) (H : Hp) (C : Addr) (cl : List (Str × Addr)) (fp : List Addr), PE (X.blk s H scope (compEnvC scope cl C X.env) fp) kx tk)
    (he : ∀ (s : Shared) (H : Hp) (C : Addr) (cl : List (Str × Addr)) (fp : List Addr), PE (X.blk s H scope (compEnvC scope cl C X.env) fp) vx tv) (hs : ∀ x, foldedSetIterable iter X.env x = pure x := by intro _; rfl) :
    PS X (.Assign [.Name y py] (.DictComp kx vx [⟨tg, iter, ifs, 0⟩] scope pos) spos) (tAsg (tDc wi g tt tk tv (own.map (·.2))) (gName i)) := by
  refine ⟨fun pins s σ H D I h => ?_⟩
  rw [exec_Assign_Name_used _ _ _ _ hsw]
  refine wpAny_bind (wpAny_standAt (wpAny_bind ?_))
  show wpAny _ X.A (do let _ ← comprehension (.DictComp kx vx [⟨tg, iter, ifs, 0⟩] scope pos) scope X.env (firstIterPos [⟨tg, iter, ifs, 0⟩] pos) newDict false (eval iter X.env) (some (assign (.Name y py) X.env))) _ _ s
  have h : tDc wi g tt tk tv (own.map (·.2)) σ H (fun x H1 => gName i x σ H1 D.nx) := h
  refine wpAny_bind (thn (dc_core (Qf := fun _ s' => SP X pins D .next s') hc hN I hi ok hg ht hk he hs h fun L C s' m H' I' q hn f => ?_) fun _ s' hq => wpAny_pure (wpAny_pure hq))
  show wpAny _ _ (assign (.Name y py) X.env (.ref L)) _ _ _
  refine wpAny_assign_Name (store_ok2 (v := V.ref L) I' hN hy (.inl hyl) rfl (fun s2 I2 ⟨a, sb, ha⟩ => ?_) (.inr hyl))
  obtain ⟨f0, f1, f2, f3, f4, f5⟩ := f
  have off : C ≠ a := by
    rcases ha with z | z
    · exact z ▸ f1
    · exact fun e => f4 y a z e.symm
  exact ⟨m, hn.sameBut sb off, fun h3 sb3 => ⟨_, H', I2.turned (t' := s2.toks) (fun b o hb e => (sb3.2 b hb).trans e) f0 f1 f3 f4 f5, q⟩⟩
end
theorem x_dget1 {td ty : TE} {σ : L2.St} {H : Hp} {Q : VK} (h : td σ H fun x H1 => ∃ a, x = .ref a ∧ IsD H1 a ∧ ty σ H1 fun y H2 => ∃ o, DGet H2 a y o ∧ Q (o.getD .non) H2) : tDGet1 td ty σ H Q := h
end My

set_option Elab.async false
set_option linter.all false
set_option maxRecDepth 100000
set_option maxHeartbeats 1000000
/-! ### sorted(d) of a dict of many texts -/
namespace My
open PySem PySem.Spec PyProof.Rows L2
theorem srt_strs : ∀ {vs : List Value} {ns : List Str}, StrsAre vs ns → SrtO.Srtd ltSv vs → sortedS ns = true
  | _, _, .nil, _ => rfl
  | _, _, .cons x t .nil, _ => rfl
  | _, _, .cons x t (.cons y u r), h => by
    have h1 := List.pairwise_cons.mp h
    have h2 := srt_strs (.cons y u r) h1.2
    have h3 : decide (y.cps.toList < x.cps.toList) = false := h1.1 _ (List.mem_cons_self ..)
    show (!ltCps y.cps.toList x.cps.toList && _) = true
    rw [ltCps_eq, h3]
    exact h2
def rSortDB : List V → Hp → VK → Prop := fun xs H Q => ∃ (a : Addr) (kvs : List (Key × V)) (ks : List Str), xs = [.ref a] ∧ Rd H a (.dK kvs) ∧ kvs.map (·.1) = ks.map Sum.inr ∧ ks.length ≤ 100000 ∧ ∀ (ys : List Str) (p : Addr), ys.Perm ks → sortedS ys = true → H p = none → Q (.ref p) (upd H p (.lst (ys.map V.str)))
section
variable {X : Cx}
theorem call_SORTDB (hcalm : X.calm = true) : CallR X (.builtin "sorted") rSortDB := by
  intro pins s σ H xs ws Q I r q
  obtain ⟨a, kvs, ks, ex, hd, hks, h64, q⟩ := q
  subst ex
  obtain ⟨u, eu, rx⟩ := vals1 r
  subst eu
  cases rx
  obtain ⟨z, lo, vs, rel, dd⟩ := dk_rd I.hok hd
  obtain ⟨ep, hat⟩ := dd.dictAt
  have hkeys : vs.map (·.1) = ks.map Sum.inr := rel.keys.symm.trans hks
  have hl : vs.length = ks.length := by
    have e := congrArg List.length hkeys
    rw [List.length_map, List.length_map] at e
    exact e
  have h16 : vs.length ≤ sizeLine := by rw [hl]; exact Nat.le_trans h64 (by decide)
  refine Calls.call_function_entry PyProof.Rows.kind_sorted PyProof.Rows.plain_sorted PyProof.Rows.entry_sorted (PyProof.Rows.args_sorted1 _) ?_
  unfold Builtin.«sorted»
  refine wpAny_bind (m := checkCount "sorted" 1 1 _) (wpAny_pure ?_)
  refine wpAny_bind (PySem.W.kdu_collect (A := X.A.in1) (PySem.W.kdl_dict (knd := mixKind X.prog X.w) (kvs := vs) (ep := ep) lo) (I.ok.hd hcalm) hat h16 fun h' tk acc hk hacc => ?_)
  have hal : acc.toList.length = ks.length := by rw [Array.length_toList, hacc.1, hl]
  have hS : StrsAre acc.toList ks := strs_at hal fun j v e => by
    obtain ⟨k, x, e1, e2⟩ := hacc.2 j v (by rw [← Array.getElem?_toList]; exact e)
    have e3 : (vs.map (·.1))[j]? = some k := by rw [List.getElem?_map, e1]; all_goals rfl
    rw [hkeys, List.getElem?_map] at e3
    cases e4 : ks[j]? with
    | none => rw [e4] at e3; cases e3
    | some y =>
      rw [e4] at e3
      have e5 : Sum.inr y = k := Option.some.inj e3
      subst e5
      obtain ⟨t, ev⟩ := Value.isStrOf_shape (x := y) (v := v) e2
      exact ⟨y, t, rfl, ev⟩
  have I1 : Inv X pins σ H { s with heap := h', toks := tk } := I.kept hk
  have hz : acc.toList.length ≤ sizeLine := by rw [hal]; exact Nat.le_trans h64 (by decide)
  refine wpAny_bind (wpAny_newList ?_ hz)
  have hoL : (h'.push (seqObj "list" acc.toList.toArray 0)).get? h'.objs.size = some (seqObj "list" acc.toList.toArray 0) := Heap.get?_push_size _ rfl
  show wpAny _ _ _ _ _ { s with heap := h'.push (seqObj "list" acc.toList.toArray 0), toks := tk }
  refine wpAny_bind (wpAny_holding (wpAny_call_entry PyProof.Rows.slot_list_sort ⟨_, hoL, rfl⟩ PyProof.Rows.entry_list_sort
    (SrtO.list_sort_ord (s := { s with heap := h'.push (seqObj "list" acc.toList.toArray 0), toks := tk }) swo_str hoL hz (fun h2 => strs_sortable hS h2) fun out hs hb => ⟨_, rfl, ?_⟩)
    (PyProof.Rows.args_list_sort _)))
  obtain ⟨ys, g1, g2⟩ := strs_perm hS hb.perm
  obtain ⟨e', he'⟩ := PyProof.Rows.sortedHeap_at (vs := acc.toList) (out := out.toArray) hoL
  have hlen : (ys.map V.str).length ≤ sizeLine := by
    rw [List.length_map, g2.length_eq]
    exact Nat.le_trans h64 (by decide)
  refine wpAny_pure ⟨_, rfl, .ref h'.objs.size, upd H h'.objs.size (.lst (ys.map V.str)), I1.laid (t' := tk) (fun b u e => ?_) (Nat.le_refl _)
    (show ObjOk X.prog X.w _ _ _ (.lst (ys.map V.str)) from ⟨hlen, out, e', vals_of_strs g1, he'⟩), rfl, q ys _ g2 (srt_strs g1 hs) (I1.hok.fresh (Nat.le_refl _))⟩
  have hb : b < h'.objs.size := Heap.lt_size e
  rw [PyProof.Rows.sortedHeap_old (Nat.ne_of_lt hb) (by rw [size_push']; exact Nat.lt_succ_of_lt hb)]
  exact Heap.get?_push_of_some _ e
end
end My

set_option Elab.async false
set_option linter.all false
set_option maxRecDepth 100000
set_option maxHeartbeats 1000000
/-! ### errors that are caught and then held by a name -/
namespace My
open PySem PySem.Spec PyProof.Rows L2
/-- an error of the class cls without a dict of its own, no longer in the air -/
def ExK (cls : Value) (a : Addr) : HO := .ext fun h => ∃ (oe : Obj) (vs : Array Value), h.get? a = some oe ∧ Zc cls none oe ∧ oe.data = .fields vs
section
variable {X : Cx} {pins : List (Addr × Obj)} {σ : L2.St} {H : Hp} {s : Shared}
theorem Inv.hold {a : Addr} {oe : Obj} {vs : Array Value} {cls : Value} (I : Inv X pins σ H s) (ha : s.heap.get? a = some oe) (hz : Zc cls none oe) (hd : oe.data = .fields vs) (na : H a = none) (n0 : X.s_0.heap.get? a = none) (nL : a ≠ X.env.locals) (np : ∀ p ∈ X.pn ++ pins, p.1 ≠ a) :
    Inv X pins σ (upd H a (ExK cls a)) s := by
  have old : ∀ {b : Addr} {u : HO}, H b = some u → b ≠ a := fun {b u} e z => by rw [z, na] at e; cases e
  have old0 : ∀ {b : Addr} {o : Obj}, X.s_0.heap.get? b = some o → b ≠ a := fun {b o} e z => by rw [z, n0] at e; cases e
  refine ⟨I.ok, I.os, I.bare, ⟨I.base.keep, I.base.slot, fun b o e n hx => ?_, I.base.there, fun b xs q => ?_, fun b o u q => ?_, fun b ps q => ?_⟩, I.loc, I.cell, ?_, fun y c e => ?_, fun p hp => ?_, ?_, I.len⟩
  · rw [upd_ne (old0 e)]
    exact I.base.free b o e n hx
  · have h1 := I.base.tups b xs q
    rw [upd_ne (old h1)]
    exact h1
  · have h1 := I.base.frzs b o u q
    rw [upd_ne (old h1)]
    exact h1
  · obtain ⟨m, h1⟩ := I.base.tbls b ps q
    exact ⟨m, by rw [upd_ne (old h1)]; exact h1⟩
  · rw [upd_ne (Ne.symm nL)]
    exact I.free
  · have h1 := I.freeC y c e
    rw [upd_ne]
    · exact h1
    · rintro rfl
      obtain ⟨v, o, ho, hv⟩ := I.cell y c e
      rw [ha] at ho
      cases ho
      rw [hd] at hv
      cases hv
  · obtain ⟨h1, h2, h3⟩ := I.pin p hp
    exact ⟨h1, by rw [upd_ne (np p hp)]; exact h2, h3⟩
  · exact HOk.laidN I.hok (h' := s.heap) (fun _ _ q => q) na ⟨⟨oe, vs, ha, hz, hd⟩, ⟨oe, ha⟩, fun h1 h2 ⟨o, v, q, r⟩ k => ⟨o, v, k o q, r⟩⟩
end
/-- what 'except x as n: y = n' wishes: slot i is n's, slot j is y's -/
def wAsV (K : PySem.W.Frag) (c : Value) (i j : Nat) (Wout : WX) (D : Ends) : WX := fun cls d σ H =>
  ∃ b, PySem.W.exmOne K cls c = some b ∧ (b = true → d = none ∧ ∀ a, H a = none → D.nx (((σ.set i (some (.ref a))).set j (some (.ref a))).set i none) (upd H a (ExK cls a))) ∧ (b = false → Wout cls d σ H)
def tTryV (K : PySem.W.Frag) (c : Value) (i j : Nat) (Wout : WX) (tb : WX → TS) : TS := fun D σ H => tb (wAsV K c i j Wout D) D σ H
section
variable {X : Cx} {x n y : Str} {c : Value} {i j : Nat} {body : List Stmt} {np pos pos' p1 p2 p3 : Pos} {tb : WX → TS} {Wout : WX}
theorem ps_try_hold (hs : X.stack = X.env :: X.outer) (hf : X.env.frame = some X.env.locals) (hex : X.ex = []) (hN : X.N.Nodup) (hi : X.N[i]? = some n) (hln : X.env.kindOf n = some .local) (hj : X.N[j]? = some y) (hlj : Loc X.env.scope y) (hc : Names X x c) (tk : Takes X Wout)
    (hb : ∀ (W : WX) (pn : List (Addr × Obj)) (xe : Value → Shared → Prop), Takes (X.tr pn xe) W → PassesOwn (model X.prog X.w) X.A X.env xe → PSs (X.tr pn xe) body (tb W))
    (hset : ∀ (a : Addr) (pn : List (Addr × Obj)), PSs (X.suite a pn) [.Assign [.Name y p1] (.Name n p2) p3] (tAsg (tVar i) (gName j))) :
    PS X (.Try body [.ExceptHandler (some (.Name x np)) (some n) [.Assign [.Name y p1] (.Name n p2) p3] pos'] [] [] pos) (tTryV X.K c i j Wout tb) := by
  refine ⟨fun pins s σ H D I h => ?_⟩
  have ok := I.ok
  have frm : X.A.frames = some (X.env :: X.outer) := by rw [ok.frames, hs]
  have hloc : Loc X.env.scope n := .inl hln
  refine wpAny_Try_except ?_
  have run := (hb (wAsV X.K c i j Wout D) (X.pn ++ pins) (fun e s₁ => wpAny (model X.prog X.w) X.A (noteFrame e X.env) (fun _ s₂ => wpAny (model X.prog X.w) X.A (setFlight e none) (fun _ s₃ =>
    wpAny (model X.prog X.w) X.A (handleBy e X.env [.ExceptHandler (some (.Name x np)) (some n) [.Assign [.Name y p1] (.Name n p2) p3] pos']) (SP X pins D) X.xe s₃) X.xe s₂) X.xe s₁) (fun u s' xx => ?_) PassesOwn.looking).run [] s σ H D (I.toTry _) h
  · refine wpAny_mono run (fun f s1 hsp => ?_) fun e s1 he => he
    cases f with
    | next => obtain ⟨σ', H', J, q⟩ := hsp; exact wpAny_execs_nil ⟨σ', H', J.ofTry ok, q⟩
    | brk => obtain ⟨σ', H', J, q⟩ := hsp; exact ⟨σ', H', J.ofTry ok, q⟩
    | cont => obtain ⟨σ', H', J, q⟩ := hsp; exact ⟨σ', H', J.ofTry ok, q⟩
    | ret u => obtain ⟨v, σ', H', J, r, q⟩ := hsp; exact ⟨v, σ', H', J.ofTry ok, r, q⟩
  · obtain ⟨a, B, sI, pins', σ', H', cls, d, rfl, J', nb, up, sky, na, os, ag, b, hb1, hyes, hno⟩ := xx
    have J : Inv X pins σ' H' sI := J'.ofTry ok
    rw [show (X.tr (X.pn ++ pins) _).stack = X.stack from rfl, hs] at sky
    show wpAny (model X.prog X.w) X.A (noteFrame (.ref a) X.env) _ _ _
    refine Sky.land Zc.steady frm hf sky fun h3 fl3 up3 => ?_
    have J3 : Inv X pins σ' H' { s' with heap := h3 } := J.landed nb fl3.1 (up.trans up3) os ag
    obtain ⟨oe3, vs3, he3, hz3, hd3⟩ := fl3.there
    have nfr : a ∉ frs (X.env :: X.outer) := fun hm => by
      obtain ⟨_, o', e', hnf⟩ := fl3.2.2.1.mem hm
      rw [he3] at e'
      cases e'
      exact hnf _ hd3
    have nL : a ≠ X.env.locals := fun z => nfr (List.mem_filterMap.mpr ⟨X.env, List.mem_cons_self, by rw [hf, z]⟩)
    have nF : a ∉ X.fs := fun hm => by
      obtain ⟨e, he, q⟩ := List.mem_filterMap.mp hm
      exact nfr (List.mem_filterMap.mpr ⟨e, List.mem_cons_of_mem _ he, q⟩)
    have nI : sI.heap.get? a = none := by
      cases q : sI.heap.get? a with
      | none => rfl
      | some o =>
        have h1 := nb a o q (by show a ∉ frs X.stack; rw [hs]; exact nfr)
        rw [fl3.2.1] at h1
        cases h1
    have n0 : X.s_0.heap.get? a = none := by
      cases q : X.s_0.heap.get? a with
      | none => rfl
      | some o =>
        obtain ⟨o', h1⟩ := J.base.there a o q (by rw [hex]; exact fun z => nomatch z)
        rw [nI] at h1
        cases h1
    have npn : ∀ p ∈ X.pn ++ pins, p.1 ≠ a := fun p hp z => by
      have h1 := (J.pin p hp).1
      rw [z, nI] at h1
      cases h1
    have S3 := J3.suite he3 hd3 na nL nF
    refine wpAny_handleBy_cons (codeAny_handlers_test ?_) (by intro q; cases q)
    have LT : PySem.W.Looks (model X.prog X.w) h3 (typeOf (.ref a)) cls := fun A Q E s k q => wpAny_typeOf_ref (k _ _ he3) (by rw [hz3.1]; exact q)
    have LM := PySem.W.exm_one (M := model X.prog X.w) (J3.kIn) LT hb1
    have test : ∀ {Q : Value → Shared → Prop} {E : Value → Shared → Prop}, Q c { s' with heap := h3 } → wpAny (model X.prog X.w) (X.A.mark (some (.ref a))) (eval (.Name x np) X.env) Q E { s' with heap := h3 } := fun {Q E} q => by
      obtain ⟨hg, hdbg, hm | ⟨hm, hv, hnn⟩⟩ := hc
      · exact ld_glob (X := X.suite a ((a, oe3) :: (X.pn ++ pins))) S3 hg hm q hdbg
      · exact ld_blt (X := X.suite a ((a, oe3) :: (X.pn ++ pins))) S3 hg hm hv q hnn hdbg
    refine test (LM.here ?_)
    cases b with
    | true =>
      obtain ⟨rfl, hgo⟩ := hyes rfl
      refine codeAny_handlers_suite_as ?_
      refine HandSPX.lands_againZ fl3 fun h4 fl4 up4 => ?_
      have J4 : Inv X pins σ' H' { s' with heap := h4 } := J.landed nb fl4.1 ((up.trans up3).trans up4) os ag
      obtain ⟨oe4, vs4, he4, hz4, hd4⟩ := fl4.there
      have S4 := J4.suite he4 hd4 na nL nF
      refine store_ok (X := X.suite a ((a, oe4) :: (X.pn ++ pins))) (v := .ref a) S4 hN hi hloc rfl (fun s5 S5 => ?_) (.inr hln)
      have li : i < σ'.length := by rw [S4.len]; exact (List.getElem?_eq_some_iff.mp hi).1
      have go := (hset a ((a, oe4) :: (X.pn ++ pins))).run [] s5 _ H' { nx := fun σ6 H6 => σ6 = (σ'.set i (some (.ref a))).set j (some (.ref a)) ∧ H6 = H', rt := fun _ _ => False, bk := fun _ _ => False, ct := fun _ _ => False } S5 ⟨.ref a, by rw [List.getElem?_set_self li], rfl, rfl⟩
      refine wpAny_mono go (fun f s6 hsp => ?_) fun _ _ z => False.elim z
      cases f with
      | next =>
        obtain ⟨σ6, H6, S6, rfl, rfl⟩ := hsp
        have h6 := S6.pin (a, oe4) (List.mem_append_left _ (List.mem_cons_self ..))
        have J6 := Inv.hold (S6.unsuite ok) h6.1 hz4 hd4 na n0 nL npn
        exact gone_ok J6 hN hi hln fun s7 J7 => ⟨_, _, J7, hgo a na⟩
      | brk => obtain ⟨_, _, _, z⟩ := hsp; exact z.elim
      | cont => obtain ⟨_, _, _, z⟩ := hsp; exact z.elim
      | ret u => obtain ⟨_, _, _, _, _, z⟩ := hsp; exact z.elim
    | false =>
      show wpAny _ X.A (handleBy (.ref a) X.env []) _ _ _
      refine wpAny_handleBy_nil ?_
      obtain ⟨k1, k2, k3, oe, vs, T, oT, ts', he, hz, hd, h1, hr⟩ := id fl3
      unfold PySem.passOn
      refine wpAny_bind (wpAny_field he hd h1 ?_)
      rw [if_neg (show ¬ ((Value.ref T == Value.none) = true) from by simp)]
      have fin : wpAny (model X.prog X.w) X.A (setFlight (.ref a) X.env.frame) (fun _ s4 => wpAny (model X.prog X.w) X.A (throw (.ref a) : Sem Flow) (SP X pins D) X.xe s4) X.xe { s' with heap := h3 } := by
        rw [hf]
        refine HandSPX.setFlight_upZ fl3 fun h4 hh4 up4 => wpAny_throw (tk _ _ ?_)
        exact ⟨a, B, sI, pins, σ', H', cls, d, rfl, J, nb, (up.trans up3).trans up4, .inr (.inr (by rw [hs]; exact hh4)), na, os, ag, hno rfl⟩
      first
        | exact wpAny_bind (wpAny_pure (wpAny_bind fin))
        | exact wpAny_bind fin
end
/-- isinstance(e, c) of an error that is held -/
def rIsK (K : PySem.W.Frag) : List V → Hp → VK → Prop := fun xs H Q => ∃ (a D : Addr) (c : V) (u : Value) (b : Bool), xs = [.ref a, c] ∧ H a = some (ExK (.ref D) a) ∧ ExcC K D ∧ ClsV c u ∧ PySem.W.kitOne K (.ref D) u = some b ∧ Q (.bl b) H
theorem call_isK {X : Cx} : CallR X (.builtin "isinstance") (rIsK X.K) := by
  intro pins s σ H xs us Q I r h
  obtain ⟨a, D, c, u, b, rfl, hx, C, k, e, q⟩ := h
  obtain ⟨u1, u2, rfl, r1, r2⟩ := vals2 r
  have e2 := k.eq r2
  subst e2
  cases (show u1 = Value.ref a from r1)
  obtain ⟨⟨oe, vs, h1, h2, h3⟩, _⟩ := (show ObjOk X.prog X.w H s.heap a (ExK (.ref D) a) from I.hok a _ hx)
  have J : PySem.W.InstAt s.heap a oe D none := by
    obtain ⟨oc, od, oda, osl⟩ := oe
    obtain ⟨z1, z2⟩ := h2
    dsimp only at z1 z2 h3
    subst z1 z2 h3
    exact ⟨h1, rfl, rfl, trivial⟩
  exact PySem.W.kia_one (PySem.W.handS_kitx_exc C.hg C.hk C.hs C.hd C.ha C.hn C.ht C.hm) I.kIn J e (fun z => nomatch z) fun tk => ⟨.bl b, H, I.tok tk, rfl, q⟩
end My

set_option Elab.async false
set_option linter.all false
set_option maxRecDepth 100000
set_option maxHeartbeats 1000000
/-! ### instances made and methods called where what is raised is wished for at the caller's slots -/
namespace My
open PySem PySem.Spec PyProof.Rows L2
section
variable {X : Cx} {CX : CXT} {k n : Nat} {f C : Addr} {fd : FuncData} {ps ks : List Str} {sp : Sp} {dvs : List V} {ds : List Value} {E : L2.St → XK} {x m : Str} {p pos apos : Pos} {e o : Expr} {es : List Expr} {kws : List Keyword} {ta : TE} {t tk : TA}
variable {g : List Value → List Value → List Value} {gV : List V → List V → List V}
def tMakeS (C : Addr) (sp : Sp) (dvs : List V) (E : L2.St → XK) (t : TA) : TE := fun σ H Q => tMake C sp dvs (E σ) t σ H Q
def tMakeKS (C : Addr) (sp : Sp) (gV : List V → List V → List V) (E : L2.St → XK) (tk : TA) : TE := fun σ H Q => tk σ H fun zs H2 => ∀ x dx, H2 x = none → H2 dx = none → dx ≠ x →
  sp (gV [.ref x] zs) (upd (upd H2 dx (.own x)) x (.ins C dx [])) (fun v H3 => v = .non ∧ Q (.ref x) H3) (E σ)
def tMethS (C : Addr) (m : Str) (sp : Sp) (dvs : List V) (E : L2.St → XK) (ta : TE) (t : TA) : TE := fun σ H Q => tMeth C m sp dvs (E σ) ta t σ H Q
def tMethK (C : Addr) (m : Str) (sp : Sp) (gV : List V → List V → List V) (E : L2.St → XK) (ta : TE) (tk : TA) : TE := fun σ H Q => ta σ H fun x H1 => ∃ a dx fs, x = .ref a ∧ H1 a = some (.ins C dx fs) ∧ fs.lookup m = none ∧ tk σ H1 fun zs H2 => sp (gV [x] zs) H2 Q (E σ)
theorem passAt1 {E1 : XK} (h : Passes CX X E1) (σ : L2.St) : PassesAt CX X σ E1 := fun pins H s e s' I c => h pins σ H s e s' I c
/-- a new instance, with the arguments as they are bound -/
theorem made_run {pins : List (Addr × Obj)} {σ : L2.St} {H : Hp} {s : Shared} {Q : VK} {us : List Value} {kw : List (Str × Value)} {as : List Value → List Value} {vs : V → List V} (M : Mk X.K C f) (F : FnOk X.prog X.w X.K X.mg X.base CX k f fd ps sp) (hr : Room (k + 1) X.A) (hx : PassesAt CX X σ (E σ)) (I : Inv X pins σ H s)
    (hb : ∀ (s' : Shared) (a : Addr), X.K.In s'.heap → Vals (vs (.ref a)) (as [.ref a]) → (vs (.ref a)).length = ps.length → BindsTo s' fd ⟨Value.ref a :: us, kw⟩ (ps.zip (as [.ref a]))) (hv : ∀ a, Vals (vs (.ref a)) (as [.ref a]))
    (h : ∀ x dx, H x = none → H dx = none → dx ≠ x → sp (vs (.ref x)) (upd (upd H dx (.own x)) x (.ins C dx [])) (fun v H2 => v = .non ∧ Q (.ref x) H2) (E σ)) :
    wpAny (model X.prog X.w) X.A (call (.ref C) us kw) (EP X pins σ Q) X.xe s := by
  have hq := h (s.heap.objs.size + 1) s.heap.objs.size (I.hok.fresh (Nat.le_succ _)) (I.hok.fresh (Nat.le_refl _)) (Nat.ne_of_lt (Nat.lt_succ_self _))
  have J := Inv.made (C := C) I
  have b := hb _ (s.heap.objs.size + 1) J.kIn (hv _) (F.len _ _ _ _ hq)
  have run := F.run _ X.stack _ _ _ _ _ _ (E σ) (hr.make C us kw) (J.env0.make C us kw) b (hv _) hq
  refine wpAny_call (make_map (f := f) I.kIn M.makes M.init (beq_iff_eq.mp M.fn) (codeAny_mono run fun r s' hq' => ?_))
  cases r with
  | error e => exact hx pins _ _ e s' J hq'
  | ok fl =>
    cases fl with
    | ret u =>
      obtain ⟨v, H', J3, rv, ev, q3⟩ := J.after hq'
      subst ev
      exact ⟨rv, ⟨V.ref (s.heap.objs.size + 1), H', J3, rfl, q3⟩⟩
    | next => exact False.elim hq'
    | brk => exact False.elim hq'
    | cont => exact False.elim hq'
theorem pe_makeS (M : Mk X.K C f) (F : FnOk X.prog X.w X.K X.mg X.base CX k f fd ps sp) (hr : Room (k + 1) X.A) (hg : Gl X x) (hm : X.mg x = some (.ref C)) (hb : Binds X.K fd ps ds) (hd : Vals dvs ds) (hx : ∀ σ, PassesAt CX X σ (E σ))
    (ha : PA X (e :: es) t) (hdb : (x == ("__debug__" : Str)) = false := by decide) (he : starEach (e :: es) X.env = (false, eval e X.env) :: starEach es X.env := by rfl) (hpl : (backTo pos (starEach es X.env)).any (·.1) = false := by rfl) :
    PE X (.Call (.Name x p) (e :: es) [] pos) (tMakeS C sp dvs E t) := by
  refine ⟨fun pins s σ H Q I h => ?_⟩
  refine wpAny_Call_Name_kw (ld_glob I hg hm ?_ hdb)
  refine PySem.W.callWith_K (h₀ := X.base) I.ok.mod.kin M.kp (thn (ha.run pos pins s σ H _ I h) fun us s1 ⟨vs, H1, I1, r, q⟩ => ⟨I1.kIn, ?_⟩) he hpl
  exact made_run (us := us) (kw := []) (as := fun a => a ++ (us ++ ds)) (vs := fun a => a :: (vs ++ dvs)) M F hr (hx σ) I1
    (fun s' a K hv hl => hb s' (Value.ref a :: us) K (by have e1 := hv.length; rw [hl] at e1; exact e1.symm)) (fun a => .cons rfl (r.append hd)) q
theorem pe_makeKS (M : Mk X.K C f) (F : FnOk X.prog X.w X.K X.mg X.base CX k f fd ps sp) (hr : Room (k + 1) X.A) (hg : Gl X x) (hm : X.mg x = some (.ref C)) (hb : KBinds X.K fd ps ks g gV) (hx : ∀ σ, PassesAt CX X σ (E σ)) (hkw : PK X kws tk)
    (hall : (backToKw pos (keywordEach kws X.env)).all (·.1.isSome) = true := by rfl) (hks : (backToKw pos (keywordEach kws X.env)).filterMap (·.1) = ks := by rfl) (hdb : (x == ("__debug__" : Str)) = false := by decide)
    (hpl : ((backTo pos (starEach [] X.env)).any (·.1) || (backToKw pos (keywordEach kws X.env)).any (·.1.isNone)) = false := by rfl) :
    PE X (.Call (.Name x p) [] kws pos) (tMakeKS C sp gV E tk) := by
  refine ⟨fun pins s σ H Q I h => ?_⟩
  refine wpAny_Call_Name_kw (ld_glob I hg hm ?_ hdb)
  refine PySem.W.callWith_KW0 (h₀ := X.base) I.ok.mod.kin M.kp hall ?_ hpl
  refine thn (hkw.run pos pins s σ H _ I h) fun ws s2 ⟨zs, H2, I2, rz, q2⟩ => ⟨I2.kIn, ?_⟩
  rw [hks]
  refine made_run (us := []) (kw := ks.zip ws) (as := fun a => g a ws) (vs := fun a => gV [a] zs) M F hr (hx σ) I2 (fun s' a K hv hl => ?_) (fun a => hb.rel (.cons rfl .nil) rz) q2
  exact hb.to s' [.ref a] ws K (by rw [← hv.length, hl])
theorem pe_methS1 {pl : Sem Bool} (he : PE X o ta) (c : Cls X.K C) (hm : Meth X.K C m f) (F : FnOk X.prog X.w X.K X.mg X.base CX k f fd ps sp) (hr : Room k X.A) (hb : Binds X.K fd ps ds) (hd : Vals dvs ds) (hx : ∀ σ, PassesAt CX X σ (E σ)) (ha : PA X (e :: es) t)
    (hst : starEach (e :: es) X.env = (false, eval e X.env) :: starEach es X.env := by rfl) (hpl : (backTo pos (starEach es X.env)).any (·.1) = false := by rfl)
    (ht : eval (.Call (.Attribute o m apos) (e :: es) [] pos) X.env = (do
      let ov ← eval o X.env
      standAt apos.atName
      let (f, first) ← holding [ov] (getMethod ov m pl)
      callWith pos f first (backTo pos (starEach (e :: es) X.env)) (backToKw pos (keywordEach [] X.env))) := by rfl) :
    PE X (.Call (.Attribute o m apos) (e :: es) [] pos) (tMethS C m sp dvs E ta t) := by
  refine ⟨fun pins s σ H Q I h => ?_⟩
  refine PySem.W.methodCall_KW (pl := pl) (thn (he.run pins s σ H _ I h) fun u s1 ⟨y, H1, I1, ry, a, dx, fs, ey, ea, l, q⟩ => ?_) ht
  subst ey
  obtain rfl : u = Value.ref a := ry
  refine getmeth_ok I1 ea c hm l ?_
  refine PySem.W.callWith_K (first := [.ref a]) (h₀ := X.base) I.ok.mod.kin hm.kp (thn (ha.run pos pins s1 σ H1 _ I1 q) fun us s2 ⟨vs, H2, I2, r, q2⟩ => ⟨I2.kIn, ?_⟩) hst hpl
  exact run_fnSD (us := .ref a :: us) (vs := .ref a :: vs) F hr hb hd (hx σ) I2 (.cons rfl r) q2
theorem pe_methS0 {pl : Sem Bool} (he : PE X o ta) (c : Cls X.K C) (hm : Meth X.K C m f) (F : FnOk X.prog X.w X.K X.mg X.base CX k f fd ps sp) (hr : Room k X.A) (hb : Binds X.K fd ps ds) (hd : Vals dvs ds) (hx : ∀ σ, PassesAt CX X σ (E σ))
    (ht : eval (.Call (.Attribute o m apos) [] [] pos) X.env = (do
      let ov ← eval o X.env
      standAt apos.atName
      let (f, first) ← holding [ov] (getMethod ov m pl)
      callWith pos f first (backTo pos (starEach [] X.env)) (backToKw pos (keywordEach [] X.env))) := by rfl) :
    PE X (.Call (.Attribute o m apos) [] [] pos) (tMethS C m sp dvs E ta tNil) := by
  refine ⟨fun pins s σ H Q I h => ?_⟩
  refine PySem.W.methodCall_KW (pl := pl) (thn (he.run pins s σ H _ I h) fun u s1 ⟨y, H1, I1, ry, a, dx, fs, ey, ea, l, q⟩ => ?_) ht
  subst ey
  obtain rfl : u = Value.ref a := ry
  refine getmeth_ok I1 ea c hm l ?_
  exact PySem.W.callWith_K0 (first := [.ref a]) I1.kIn hm.kp (run_fnSD (us := [.ref a]) (vs := [.ref a]) F hr hb hd (hx σ) I1 (.cons rfl .nil) q)
/-- o.m(k = v, ..) -/
theorem pe_methK {pl : Sem Bool} (he : PE X o ta) (c : Cls X.K C) (hm : Meth X.K C m f) (F : FnOk X.prog X.w X.K X.mg X.base CX k f fd ps sp) (hr : Room k X.A) (hb : KBinds X.K fd ps ks g gV) (hx : ∀ σ, PassesAt CX X σ (E σ)) (hkw : PK X kws tk)
    (hall : (backToKw pos (keywordEach kws X.env)).all (·.1.isSome) = true := by rfl) (hks : (backToKw pos (keywordEach kws X.env)).filterMap (·.1) = ks := by rfl)
    (hpl : ((backTo pos (starEach [] X.env)).any (·.1) || (backToKw pos (keywordEach kws X.env)).any (·.1.isNone)) = false := by rfl)
    (ht : eval (.Call (.Attribute o m apos) [] kws pos) X.env = (do
      let ov ← eval o X.env
      standAt apos.atName
      let (f, first) ← holding [ov] (getMethod ov m pl)
      callWith pos f first (backTo pos (starEach [] X.env)) (backToKw pos (keywordEach kws X.env))) := by rfl) :
    PE X (.Call (.Attribute o m apos) [] kws pos) (tMethK C m sp gV E ta tk) := by
  refine ⟨fun pins s σ H Q I h => ?_⟩
  refine PySem.W.methodCall_KW (pl := pl) (thn (he.run pins s σ H _ I h) fun u s1 ⟨y, H1, I1, ry, a, dx, fs, ey, ea, l, q⟩ => ?_) ht
  subst ey
  obtain rfl : u = Value.ref a := ry
  refine getmeth_ok I1 ea c hm l ?_
  refine PySem.W.callWith_KW0 (first := [.ref a]) (h₀ := X.base) I.ok.mod.kin hm.kp hall ?_ hpl
  refine thn (hkw.run pos pins s1 σ H1 _ I1 q) fun ws s2 ⟨zs, H2, I2, rz, q2⟩ => ⟨I2.kIn, ?_⟩
  rw [hks]
  have r2 := hb.rel (vs := [V.ref a]) (us := [Value.ref a]) (.cons rfl .nil) rz
  have hl : (g [Value.ref a] ws).length = ps.length := by rw [← r2.length]; exact F.len _ _ _ _ q2
  refine wpAny_call (codeAny_mono (F.run X.A X.stack s2 H2 ⟨[.ref a] ++ [], ks.zip ws⟩ (g [.ref a] ws) (gV [.ref a] zs) Q (E σ) hr I2.env0 (hb.to s2 [.ref a] ws I2.kIn hl) r2 q2) fun r s' hq => ?_)
  cases r with
  | error e => exact hx σ pins H2 s2 e s' I2 hq
  | ok fl =>
    cases fl with
    | ret u => exact I2.after hq
    | next => exact False.elim hq
    | brk => exact False.elim hq
    | cont => exact False.elim hq
end
section
variable {X : Cx} {σ : L2.St} {H : Hp} {Q : VK} {ta : TE} {t tk : TA} {C : Addr} {m f : Str} {sp : Sp} {dvs : List V} {E : L2.St → XK} {E1 : XK} {gV : List V → List V → List V} {K : PySem.W.Frag}
theorem x_makeS (h : t σ H fun vs H1 => ∀ x dx, H1 x = none → H1 dx = none → dx ≠ x → sp (.ref x :: (vs ++ dvs)) (upd (upd H1 dx (.own x)) x (.ins C dx [])) (fun v H2 => v = .non ∧ Q (.ref x) H2) (E σ)) : tMakeS C sp dvs E t σ H Q := h
theorem x_make (h : t σ H fun vs H1 => ∀ x dx, H1 x = none → H1 dx = none → dx ≠ x → sp (.ref x :: (vs ++ dvs)) (upd (upd H1 dx (.own x)) x (.ins C dx [])) (fun v H2 => v = .non ∧ Q (.ref x) H2) E1) : tMake C sp dvs E1 t σ H Q := h
theorem x_makeKS (h : tk σ H fun zs H2 => ∀ x dx, H2 x = none → H2 dx = none → dx ≠ x → sp (gV [.ref x] zs) (upd (upd H2 dx (.own x)) x (.ins C dx [])) (fun v H3 => v = .non ∧ Q (.ref x) H3) (E σ)) : tMakeKS C sp gV E tk σ H Q := h
theorem x_methS (h : ta σ H fun x H1 => ∃ a dx fs, x = .ref a ∧ H1 a = some (.ins C dx fs) ∧ fs.lookup m = none ∧ t σ H1 fun vs H2 => sp (x :: (vs ++ dvs)) H2 Q (E σ)) : tMethS C m sp dvs E ta t σ H Q := h
theorem x_meth (h : ta σ H fun x H1 => ∃ a dx fs, x = .ref a ∧ H1 a = some (.ins C dx fs) ∧ fs.lookup m = none ∧ t σ H1 fun vs H2 => sp (x :: (vs ++ dvs)) H2 Q E1) : tMeth C m sp dvs E1 ta t σ H Q := h
theorem x_methK (h : ta σ H fun x H1 => ∃ a dx fs, x = .ref a ∧ H1 a = some (.ins C dx fs) ∧ fs.lookup m = none ∧ tk σ H1 fun zs H2 => sp (gV [x] zs) H2 Q (E σ)) : tMethK C m sp gV E ta tk σ H Q := h
theorem x_fld (h : ta σ H fun x H1 => ∃ a C dx fs v, x = .ref a ∧ H1 a = some (.ins C dx fs) ∧ Cls K C ∧ NoAttr K C f ∧ fs.lookup f = some v ∧ Q v H1) : tFld K ta f σ H Q := h
end
end My

set_option Elab.async false
set_option linter.all false
set_option maxRecDepth 100000
set_option maxHeartbeats 1000000
/-! ### zip of a tuple and a list; reversed of a tuple; fields set -/
namespace My
open PySem PySem.Spec PyProof.Rows L2
def ItzM (K : PySem.W.Frag) (a b : Addr) : It where
  go := fun i H => ∃ xs ys x y, SqT K H a xs ∧ SqL K H b ys ∧ xs[i]? = some x ∧ ys[i]? = some y
  yld := fun i H v H' => ∃ T x y, v = .ref T ∧ H T = none ∧ H' = upd H T (.tup [x, y]) ∧ (∀ xs, SqT K H a xs → xs[i]? = some x) ∧ ∀ ys, SqL K H b ys → ys[i]? = some y
  stop := fun i H => ∃ xs ys, SqT K H a xs ∧ SqL K H b ys ∧ i ≤ xs.length ∧ i ≤ ys.length ∧ (i = xs.length ∨ i = ys.length)
theorem turn_zipM {P : Program} {w : World} {K : PySem.W.Frag} {elts : List Expr} {kk : Nat} {tpos : Pos} {a b z TI TO i1 i2 : Addr} (hz : ZipSep2 z TI TO i1 i2 [i1, a] [i2, b]) (h1 : a ≠ i1) (h2 : b ≠ i2) :
    Turn P w K (.Tuple elts kk tpos) (ItzM K a b) [z, TI, TO, i1, i2] z (fun i h => IsZip h z TI TO .none ∧ IsTupOf2 h TI (.ref i1) (.ref i2) ∧ (∃ x y, IsTupOf2 h TO x y) ∧ h.IsTupleIter i1 a i ∧ h.IsListIter i2 b i) where
  mem := by simp
  obj := fun i h st c hc => by
    obtain ⟨s1, s2, ⟨x, y, s3⟩, ⟨o4, e4, c4, d4⟩, ⟨o5, e5, c5, d5⟩⟩ := st
    have e' : c = z ∨ c = TI ∨ c = TO ∨ c = i1 ∨ c = i2 := by simpa using hc
    rcases e' with q | q | q | q | q
    · rw [q]; exact ⟨_, s1, fun v q => nomatch q⟩
    · rw [q]; exact ⟨_, s2, fun v q => nomatch q⟩
    · rw [q]; exact ⟨_, s3, fun v q => nomatch q⟩
    · rw [q]; exact ⟨_, e4, fun v q => by rw [d4] at q; cases q⟩
    · rw [q]; exact ⟨_, e5, fun v q => by rw [d5] at q; cases q⟩
  keep := fun i h h' st k => by
    obtain ⟨s1, s2, ⟨x, y, s3⟩, s4, s5⟩ := st
    exact ⟨k z (by simp) _ s1, k TI (by simp) _ s2, ⟨x, y, k TO (by simp) _ s3⟩, s4.at fun o q => k i1 (by simp) _ q, s5.at fun o q => k i2 (by simp) _ q⟩
  item := by
    intro X hP hw hK hc i pins s σ H E I hf st hg
    subst hP hw hK
    obtain ⟨s1, s2, ⟨a1, a2, s3⟩, s4, s5⟩ := st
    obtain ⟨xs, ys, x, y, hx, hy, ex, ey⟩ := hg
    obtain ⟨its, rx, px, _⟩ := I.tuple hx
    obtain ⟨jts, ry, py, _⟩ := I.list hy
    obtain ⟨u, eu, ru⟩ := rx.get ex
    obtain ⟨v, ev, rv⟩ := ry.get ey
    have px' : s.heap.IsTuple a its.toArray := px
    have py' : s.heap.IsList b jts.toArray := py.isList
    have l1 : i < its.toArray.size := by have := (List.getElem?_eq_some_iff.mp eu).1; simpa using this
    have l2 : i < jts.toArray.size := by have := (List.getElem?_eq_some_iff.mp ev).1; simpa using this
    have hzl : z < s.heap.objs.size := Heap.lt_size s1
    have lt : ∀ c ∈ [z, TI, TO, i1, i2], c < s.heap.objs.size := fun c hc => by
      obtain ⟨o4, e4, _⟩ := s4
      obtain ⟨o5, e5, _⟩ := s5
      have e' : c = z ∨ c = TI ∨ c = TO ∨ c = i1 ∨ c = i2 := by simpa using hc
      rcases e' with q | q | q | q | q <;> rw [q]
      · exact hzl
      · exact Heap.lt_size s2
      · exact Heap.lt_size s3
      · exact Heap.lt_size e4
      · exact Heap.lt_size e5
    refine wpAny_pyNext_zipD2_item hz (Draws.tuple (prog := X.prog) (w := X.w) (A := X.A.in1) (I.ok.hd hc) i1 a h1 its.toArray) (Draws.list (prog := X.prog) (w := X.w) (A := X.A.in1) (I.ok.hd hc) i2 b h2 jts.toArray) s1 s2 s3 ⟨s4, px'⟩ ⟨s5, py'⟩ l1 l2 fun x1 x2 h' tk hx1 hx2 ho hTO st1 st2 hT hsz hk => ?_
    have q1 : x1 = u := by
      have e1 : its.toArray[i]? = some u := by simpa using eu
      rw [e1] at hx1
      exact (Option.some.inj hx1).symm
    have q2 : x2 = v := by
      have e1 : jts.toArray[i]? = some v := by simpa using ev
      rw [e1] at hx2
      exact (Option.some.inj hx2).symm
    subst q1 q2
    refine ⟨_, rfl, wpAny_letOwnedTupleGo_zip (s := { s with heap := h', toks := tk }) ho fun h'' he' sb => ?_⟩
    have hT2 : IsTupOf2 h'' s.heap.objs.size x1 x2 := (sb.2 _ (Nat.ne_of_gt hzl)).trans hT
    have new : ObjOk X.prog X.w (upd H s.heap.objs.size (.tup [x, y])) h'' s.heap.objs.size (.tup [x, y]) :=
      ⟨by show 2 ≤ sizeLine; decide, [x1, x2], .cons ru (.cons rv .nil), ⟨_, hT2, rfl, _, rfl⟩⟩
    have I1 : Inv X pins σ (upd H s.heap.objs.size (.tup [x, y])) { s with heap := h'', toks := tk } :=
      I.turnedNew (ch := [z, TI, TO, i1, i2]) (fun c ob hb q => (sb.2 c (fun z => hb (by simp [z]))).trans (hk c ob (fun z => hb (by simp [z])) (fun z => hb (by simp [z])) (fun z => hb (by simp [z])) (fun z => hb (by simp [z])) q)) hf (Nat.le_refl _) new
    have TIk : IsTupOf2 h'' TI (.ref i1) (.ref i2) := (sb.2 _ hz.TIz).trans (hk TI _ hz.TIz hz.TITO hz.TIi1 hz.TIi2 s2)
    refine ⟨.ref s.heap.objs.size, _, I1, rfl, ⟨_, x, y, rfl, I.hok.fresh (Nat.le_refl _), rfl, fun ws hw => by rw [I.tuple_inj hw hx]; exact ex, fun ws hw => by rw [I.list_inj hw hy]; exact ey⟩, ⟨he', TIk, ⟨x1, x2, (sb.2 _ hz.TOz).trans hTO⟩, st1.1.at fun o q => (sb.2 i1 (fun e => hz.zf1 (by simp [e]))).trans q, st2.1.at fun o q => (sb.2 i2 (fun e => hz.zf2 (by simp [e]))).trans q⟩, fun c hb => ?_⟩
    rw [upd_ne (Nat.ne_of_lt (lt c hb))]
    exact (hf c hb).1
  done := by
    intro X hP hw hK hc i pins s σ H E I hf st hg
    subst hP hw hK
    obtain ⟨s1, s2, ⟨a1, a2, s3⟩, s4, s5⟩ := st
    obtain ⟨xs, ys, hx, hy, g1, g2, g3⟩ := hg
    obtain ⟨its, rx, px, _⟩ := I.tuple hx
    obtain ⟨jts, ry, py, _⟩ := I.list hy
    have px' : s.heap.IsTuple a its.toArray := px
    have py' : s.heap.IsList b jts.toArray := py.isList
    have l1 := rx.length
    have l2 := ry.length
    exact wpAny_pyNext_zipD2_end hz (Draws.tuple (prog := X.prog) (w := X.w) (A := X.A.in1) (I.ok.hd hc) i1 a h1 its.toArray) (Draws.list (prog := X.prog) (w := X.w) (A := X.A.in1) (I.ok.hd hc) i2 b h2 jts.toArray) s1 s2 s3 ⟨s4, px'⟩ ⟨s5, py'⟩ (by simp; omega) (by simp; omega) (by simp; omega) fun h' tk hk =>
      ⟨rfl, I.turnedL (ch := [z, TI, TO, i1, i2]) (fun c ob hb q => hk c ob (fun z => hb (by simp [z])) (fun z => hb (by simp [z])) (fun z => hb (by simp [z])) (fun z => hb (by simp [z])) q) hf⟩
  self := fun A i s Q E st h => wpAny_pyIter_zip st.1 h
def iZipM (K : PySem.W.Frag) (ta : TA) : TI := fun σ H R => ta σ H fun vs H1 => ∃ a b xs ys, vs = [.ref a, .ref b] ∧ SqT K H1 a xs ∧ SqL K H1 b ys ∧ R (ItzM K a b) H1
theorem pi_zipM {X : Cx} {e e2 : Expr} {ta : TA} {p pos tpos : Pos} {elts : List Expr} {kk : Nat} (hg : Gl X "zip") (hm : X.mg "zip" = none) (ha : PA X [e, e2] ta)
    (hs : starEach [e, e2] X.env = (false, eval e X.env) :: starEach [e2] X.env := by rfl) (hpl : (backTo pos (starEach [e2] X.env)).any (·.1) = false := by rfl) :
    PI X (.Tuple elts kk tpos) (.Call (.Name "zip" p) [e, e2] [] pos) (iZipM X.K ta) := by
  refine ⟨fun pins s σ H R I h => ?_⟩
  refine Call_ (ld_blt I hg hm boot_zip (PyProof.Rows.callWith_type1 (thn (ha.run pos pins s σ H _ I h) fun us s1 ⟨vs, H1, I1, r1, q1⟩ => ?_) hs hpl))
  obtain ⟨a, b, xs, ys, e, hx, hy, q⟩ := q1
  subst e
  obtain ⟨u, v, rfl, ru, rv⟩ := L2.vals2 r1
  cases (show u = Value.ref a from ru)
  cases (show v = Value.ref b from rv)
  obtain ⟨its, rx, px, _⟩ := I1.tuple hx
  obtain ⟨jts, ry, py, _⟩ := I1.list hy
  have px' : s1.heap.IsTuple a its.toArray := px
  have py' : s1.heap.IsList b jts.toArray := py.isList
  have la : a < s1.heap.objs.size := by obtain ⟨o, e, _⟩ := px'; exact Heap.lt_size e
  have lb : b < s1.heap.objs.size := by obtain ⟨o, e, _⟩ := py'; exact Heap.lt_size e
  refine zip_begins2 (begins_tuple a its.toArray) (begins_list b jts.toArray) px' py' fun h' hz hTI hTO h1 h2 hsz hk => ?_
  refine wpAny_pyIter_zip hz ?_
  have I3 : Inv X pins σ H1 { s1 with heap := h' } := I1.kept (t' := s1.toks) hk
  refine ⟨_, [_, _, _, _, _], _, _, H1, rfl, I3, turn_zipM (zip_sep2 (N := s1.heap.objs.size) (fp1 := [a]) (fp2 := [b]) (fun c hc => by rw [List.mem_singleton.mp hc]; exact la) (fun c hc => by rw [List.mem_singleton.mp hc]; exact lb)) (Nat.ne_of_lt la) (Nat.ne_of_lt (Nat.lt_succ_of_lt lb)), ⟨hz, hTI, ⟨_, _, hTO⟩, ⟨_, h1, rfl, rfl⟩, ⟨_, h2, rfl, rfl⟩⟩, fun c hc => ?_, q⟩
  have hle : s1.heap.objs.size ≤ c := by
    have e' : c = s1.heap.objs.size + 4 ∨ c = s1.heap.objs.size + 2 ∨ c = s1.heap.objs.size + 3 ∨ c = s1.heap.objs.size ∨ c = s1.heap.objs.size + 1 := by simpa using hc
    rcases e' with q | q | q | q | q <;> rw [q]
    · exact Nat.le_add_right _ _
    · exact Nat.le_add_right _ _
    · exact Nat.le_add_right _ _
    · exact Nat.le_refl _
    · exact Nat.le_add_right _ _
  have := I1.fpOk (H' := H1) hle (I1.hok.fresh hle)
  exact this
section
variable {K : PySem.W.Frag} {g : TG} {p : TS} {t : TT} {te ta tv : TE} {ws : List Nat} {σ : L2.St} {Q rt : VK} {H : Hp} {tr : TA} {n b k : L2.St → Hp → Prop} {f : Str}
theorem s_fld (h : tv σ H fun y H1 => ta σ H1 fun x H2 => ∃ a C dx fs, x = .ref a ∧ H2 a = some (.ins C dx fs) ∧ Cls K C ∧ NoAttr K C f ∧ fs.length < 1000 ∧ n σ (upd H2 a (.ins C dx (putF f y fs)))) : sFld K ta tv f ⟨n, rt, b, k⟩ σ H := h
/-! reversed of a tuple -/
def ForRT (K : PySem.W.Frag) (g : TG) (tb : TS) (n : L2.St → Hp → Prop) (rt : VK) (σ : L2.St) (x : V) (H : Hp) : Prop := ∃ (a : Addr) (xs : List V), x = .ref a ∧ ((SqL K H a xs ∧ LoopW (Itv K a xs.length) g tb n rt σ H) ∨ (SqT K H a xs ∧ LoopW (RT.ItvT K a xs.length) g tb n rt σ H))
theorem f_rt (h : te σ H fun x H1 => ForRT K g p n rt σ x H1) : tFor (RT.iRevA K te) g p ⟨n, rt, b, k⟩ σ H := h
theorem forRT_mk {a : Addr} {xs : List V} (hx : SqT K H a xs) (Pv : Nat → L2.St → Hp → Prop) (h0 : Pv 0 σ H) (hq : ∀ i σ H, Pv i σ H → SqT K H a xs)
    (hs : ∀ (i : Nat) (x : V) (σ : L2.St) (H : Hp), i < xs.length → xs[xs.length - 1 - i]? = some x → Pv i σ H → g x σ H fun σ2 H2 => p ⟨Pv (i + 1), rt, n, Pv (i + 1)⟩ σ2 H2)
    (hd : ∀ σ H, Pv xs.length σ H → n σ H) : ForRT K g p n rt σ (.ref a) H := ⟨a, xs, rfl, .inr ⟨hx, RT.for_ItvT (D := ⟨n, rt, n, n⟩) Pv h0 hq hs hd⟩⟩
/-! zip of a tuple and a list -/
def ForZM (K : PySem.W.Frag) (g : TG) (tb : TS) (n : L2.St → Hp → Prop) (rt : VK) (σ : L2.St) (vs : List V) (H : Hp) : Prop := ∃ a b xs ys, vs = [.ref a, .ref b] ∧ SqT K H a xs ∧ SqL K H b ys ∧ LoopW (ItzM K a b) g tb n rt σ H
theorem f_zm (h : tr σ H fun vs H1 => ForZM K g p n rt σ vs H1) : tFor (iZipM K tr) g p ⟨n, rt, b, k⟩ σ H := h
theorem forZM_mk {a b' : Addr} {xs ys : List V} (hx : SqT K H a xs) (hy : SqL K H b' ys) (hl : xs.length = ys.length) (Pv : Nat → L2.St → Hp → Prop) (h0 : Pv 0 σ H) (hq : ∀ i σ H, Pv i σ H → SqT K H a xs ∧ SqL K H b' ys)
    (hs : ∀ (i : Nat) (x y : V) (T : Addr) (σ : L2.St) (H : Hp), xs[i]? = some x → ys[i]? = some y → Pv i σ H → H T = none → g (.ref T) σ (upd H T (.tup [x, y])) fun σ2 H2 => p ⟨Pv (i + 1), rt, n, Pv (i + 1)⟩ σ2 H2)
    (hd : ∀ σ H, Pv xs.length σ H → n σ H) : ForZM K g p n rt σ [.ref a, .ref b'] H := by
  refine ⟨a, b', xs, ys, rfl, hx, hy, fun i m σ' H' => m = xs.length - i ∧ i ≤ xs.length ∧ Pv i σ' H', ⟨xs.length, by simp, Nat.zero_le _, h0⟩, ?_⟩
  rintro i m σ' H' ⟨rfl, hi, pp⟩
  obtain ⟨qx, qy⟩ := hq i σ' H' pp
  by_cases hlt : i < xs.length
  · refine .inr ⟨⟨xs, ys, xs[i], ys[i], qx, qy, List.getElem?_eq_getElem hlt, List.getElem?_eq_getElem (by omega)⟩, Pv (i + 1), fun σ2 H2 p2 => ⟨xs.length - (i + 1), by omega, rfl, hlt, p2⟩, fun v H2 y => ?_⟩
    obtain ⟨T, x, y, rfl, hT, rfl, e1, e2⟩ := y
    exact hs i x y T σ' H' (e1 xs qx) (e2 ys qy) pp hT
  · have e : i = xs.length := by omega
    subst e
    exact .inl ⟨⟨xs, ys, qx, qy, Nat.le_refl _, by omega, .inl rfl⟩, hd σ' H' pp⟩
def LcZM (K : PySem.W.Frag) (g : TG) (tt : TT) (te : TE) (ws : List Nat) (σ : L2.St) (Q : VK) (vs : List V) (H : Hp) : Prop := ∃ a b xs ys, vs = [.ref a, .ref b] ∧ SqT K H a xs ∧ SqL K H b ys ∧ LcW (ItzM K a b) g tt te ws σ Q H
theorem c_zm (h : tr σ H fun vs H1 => LcZM K g t te ws σ Q vs H1) : tLc (iZipM K tr) g t te ws σ H Q := h
theorem lcZM_mk {a b' : Addr} {xs ys : List V} (hx : SqT K H a xs) (hy : SqL K H b' ys) (hl : xs.length = ys.length) (Pv : Addr → Nat → Hp → Prop) (h0 : ∀ D, H D = none → Pv D 0 (upd H D (.lst []))) (hq : ∀ D i H', H D = none → Pv D i H' → SqT K H' a xs ∧ SqL K H' b' ys)
    (hs : ∀ D (i : Nat) x y T H', H D = none → xs[i]? = some x → ys[i]? = some y → Pv D i H' → H' T = none → g (.ref T) (wipe σ ws) (upd H' T (.tup [x, y])) fun σ2 H2 => wipe σ2 ws = wipe σ ws ∧ t σ2 H2 fun b H3 => if b = true then te σ2 H3 fun y H4 => ∃ acc, H4 D = some (.lst acc) ∧ acc.length < sizeLine ∧ Pv D (i + 1) (upd H4 D (.lst (acc ++ [y]))) else Pv D (i + 1) H3)
    (hd : ∀ D H', H D = none → Pv D xs.length H' → Q (.ref D) H') : LcZM K g t te ws σ Q [.ref a, .ref b'] H := by
  refine ⟨a, b', xs, ys, rfl, hx, hy, fun D hD => ⟨fun i m H' => m = xs.length - i ∧ i ≤ xs.length ∧ Pv D i H', ⟨xs.length, by simp, Nat.zero_le _, h0 D hD⟩, ?_⟩⟩
  rintro i m H' ⟨rfl, hi, pp⟩
  obtain ⟨qx, qy⟩ := hq D i H' hD pp
  by_cases hlt : i < xs.length
  · refine .inr ⟨⟨xs, ys, xs[i], ys[i], qx, qy, List.getElem?_eq_getElem hlt, List.getElem?_eq_getElem (by omega)⟩, Pv D (i + 1), fun H2 p2 => ⟨xs.length - (i + 1), by omega, rfl, hlt, p2⟩, fun v H2 y => ?_⟩
    obtain ⟨T, x, y, rfl, hT, rfl, e1, e2⟩ := y
    exact hs D i x y T H' hD (e1 xs qx) (e2 ys qy) pp hT
  · have e : i = xs.length := by omega
    subst e
    exact .inl ⟨⟨xs, ys, qx, qy, Nat.le_refl _, by omega, .inl rfl⟩, hd D H' hD pp⟩
end
end My

set_option Elab.async false
set_option linter.all false
set_option maxRecDepth 100000
set_option maxHeartbeats 4000000
namespace My
open PySem PySem.Spec PyProof.Rows L2
/-! ### the text -/
def topS (i : Nat) : Stmt := PySem.Challenge.pw_heldpasts_k06_whole_deeds_of_disks.main.body.getD i (.Pass ⟨0, 0, 0, 0⟩)
abbrev s_is_text : Stmt := topS 11
theorem sc_is_text : FnScope ["value"] ["value"] (defScope s_is_text) := ⟨rfl, rfl, rfl, by decide +kernel, rfl, by decide +kernel, by decide +kernel⟩
-- is_text: 0 value
abbrev s_is_number : Stmt := topS 13
theorem sc_is_number : FnScope ["value", "low", "high"] ["value", "low", "high"] (defScope s_is_number) := ⟨rfl, rfl, rfl, by decide +kernel, rfl, by decide +kernel, by decide +kernel⟩
-- is_number: 0 value, 1 low, 2 high
abbrev s_is_block : Stmt := topS 14
theorem sc_is_block : FnScope ["value", "signs"] ["value", "signs"] (defScope s_is_block) := ⟨rfl, rfl, rfl, by decide +kernel, rfl, by decide +kernel, by decide +kernel⟩
-- is_block: 0 value, 1 signs
abbrev s_check_signs : Stmt := topS 15
theorem sc_check_signs : FnScope ["signs"] ["signs"] (defScope s_check_signs) := ⟨rfl, rfl, rfl, by decide +kernel, rfl, by decide +kernel, by decide +kernel⟩
-- check_signs: 0 signs
abbrev s_check_image : Stmt := topS 16
theorem sc_check_image : FnScope ["image", "signs", "block"] ["image", "signs"] (defScope s_check_image) := ⟨rfl, rfl, rfl, by decide +kernel, rfl, by decide +kernel, by decide +kernel⟩
-- check_image: 0 image, 1 signs*, 2 block
abbrev s_check_index : Stmt := topS 17
theorem sc_check_index : FnScope ["index", "many"] ["index", "many"] (defScope s_check_index) := ⟨rfl, rfl, rfl, by decide +kernel, rfl, by decide +kernel, by decide +kernel⟩
-- check_index: 0 index, 1 many
abbrev s_check_block : Stmt := topS 18
theorem sc_check_block : FnScope ["block", "signs"] ["block", "signs"] (defScope s_check_block) := ⟨rfl, rfl, rfl, by decide +kernel, rfl, by decide +kernel, by decide +kernel⟩
-- check_block: 0 block, 1 signs
abbrev s_check_from : Stmt := topS 19
theorem sc_check_from : FnScope ["value", "low"] ["value", "low"] (defScope s_check_from) := ⟨rfl, rfl, rfl, by decide +kernel, rfl, by decide +kernel, by decide +kernel⟩
-- check_from: 0 value, 1 low
abbrev s__law_spring : Stmt := topS 23
theorem sc__law_spring : FnScope ["_law_script", "_law_great", "_law_cell", "_law_mixed"] ["_law_script"] (defScope s__law_spring) := ⟨rfl, rfl, rfl, by decide +kernel, rfl, by decide +kernel, by decide +kernel⟩
-- _law_spring: 0 _law_script, 1 _law_great, 2 _law_cell, 3 _law_mixed
abbrev s__law_drop : Stmt := topS 24
theorem sc__law_drop : FnScope ["_law_spring_here", "_law_many", "_law_great", "_law_found"] ["_law_spring_here", "_law_many"] (defScope s__law_drop) := ⟨rfl, rfl, rfl, by decide +kernel, rfl, by decide +kernel, by decide +kernel⟩
-- _law_drop: 0 _law_spring_here, 1 _law_many, 2 _law_great, 3 _law_found
abbrev s__law_text : Stmt := topS 25
theorem sc__law_text : FnScope ["_law_spring_here", "_law_size", "_law_signs", "_law_word_here", "_law_k", "_law_text_here", "_law_at"] ["_law_spring_here", "_law_size"] (defScope s__law_text) := ⟨rfl, rfl, rfl, by decide +kernel, rfl, by decide +kernel, by decide +kernel⟩
-- _law_text: 0 _law_spring_here*, 1 _law_size, 2 _law_signs*, 3 _law_word_here, 4 _law_k, 5 _law_text_here, 6 _law_at
abbrev s__law_kinds : Stmt := topS 26
theorem sc__law_kinds : FnScope ["_law_thing", "_law_found"] ["_law_thing"] (defScope s__law_kinds) := ⟨rfl, rfl, rfl, by decide +kernel, rfl, by decide +kernel, by decide +kernel⟩
-- _law_kinds: 0 _law_thing, 1 _law_found
abbrev s__law_alike : Stmt := topS 27
theorem sc__law_alike : FnScope ["_law_found", "_law_due_here", "_law_k"] ["_law_found", "_law_due_here"] (defScope s__law_alike) := ⟨rfl, rfl, rfl, by decide +kernel, rfl, by decide +kernel, by decide +kernel⟩
-- _law_alike: 0 _law_found*, 1 _law_due_here*, 2 _law_k
abbrev s__law_word : Stmt := topS 28
theorem sc__law_word : FnScope ["_law_caught", "_law_kinds_here", "_law_names", "_law_found", "_law_k"] ["_law_caught"] (defScope s__law_word) := ⟨rfl, rfl, rfl, by decide +kernel, rfl, by decide +kernel, by decide +kernel⟩
-- _law_word: 0 _law_caught, 1 _law_kinds_here*, 2 _law_names*, 3 _law_found, 4 _law_k
abbrev s__law_told : Stmt := topS 29
theorem sc__law_told : FnScope ["_law_disk", "_law_deed_here", "_law_caught", "_law_told_here", "e"] ["_law_disk", "_law_deed_here"] (defScope s__law_told) := ⟨rfl, rfl, rfl, by decide +kernel, rfl, by decide +kernel, by decide +kernel⟩
-- _law_told: 0 _law_disk, 1 _law_deed_here, 2 _law_caught, 3 _law_told_here, 4 e
abbrev s__law_newest : Stmt := topS 30
theorem sc__law_newest : FnScope ["_law_model", "_law_index", "_law_other", "_law_block"] ["_law_model", "_law_index"] (defScope s__law_newest) := ⟨rfl, rfl, rfl, by decide +kernel, rfl, by decide +kernel, by decide +kernel⟩
-- _law_newest: 0 _law_model, 1 _law_index*, 2 _law_other, 3 _law_block
abbrev s__law_due : Stmt := topS 31
theorem sc__law_due : FnScope ["_law_model", "_law_deed_here", "_law_many", "_law_way", "_law_index"] ["_law_model", "_law_deed_here"] (defScope s__law_due) := ⟨rfl, rfl, rfl, by decide +kernel, rfl, by decide +kernel, by decide +kernel⟩
-- _law_due: 0 _law_model*, 1 _law_deed_here, 2 _law_many, 3 _law_way, 4 _law_index
abbrev s__law_deed : Stmt := topS 32
theorem sc__law_deed : FnScope ["_law_spring_here", "_law_model", "_law_index", "_law_odd", "_law_signs", "_law_block", "_law_wrong", "_law_way", "_law_word_here"] ["_law_spring_here", "_law_model"] (defScope s__law_deed) := ⟨rfl, rfl, rfl, by decide +kernel, rfl, by decide +kernel, by decide +kernel⟩
-- _law_deed: 0 _law_spring_here, 1 _law_model, 2 _law_index, 3 _law_odd, 4 _law_signs, 5 _law_block, 6 _law_wrong, 7 _law_way, 8 _law_word_here
abbrev s__law_stands : Stmt := topS 33
theorem sc__law_stands : FnScope ["_law_disk", "_law_model", "_law_told_here", "_law_due_here"] ["_law_disk", "_law_model"] (defScope s__law_stands) := ⟨rfl, rfl, rfl, by decide +kernel, rfl, by decide +kernel, by decide +kernel⟩
-- _law_stands: 0 _law_disk, 1 _law_model, 2 _law_told_here, 3 _law_due_here
abbrev s__law_behind_right : Stmt := topS 34
theorem sc__law_behind_right : FnScope ["_law_spring_here", "_law_disk", "_law_model", "_law_choice", "_law_image", "_law_index", "_law_ways", "_law_told_here"] ["_law_spring_here", "_law_disk", "_law_model"] (defScope s__law_behind_right) := ⟨rfl, rfl, rfl, by decide +kernel, rfl, by decide +kernel, by decide +kernel⟩
-- _law_behind_right: 0 _law_spring_here, 1 _law_disk, 2 _law_model, 3 _law_choice, 4 _law_image, 5 _law_index, 6 _law_ways, 7 _law_told_here
abbrev s_law : Stmt := topS 35
theorem sc_law : FnScope ["_law_script", "_law_spring_here", "_law_signs", "_law_image", "_law_k", "_law_disks", "_law_models", "_law_turn", "_law_steps", "_law_at", "_law_deed_here", "_law_held", "_law_stood", "_law_due_here"] ["_law_script"] (defScope s_law) := ⟨rfl, rfl, rfl, by decide +kernel, rfl, by decide +kernel, by decide +kernel⟩
-- law: 0 _law_script, 1 _law_spring_here*, 2 _law_signs, 3 _law_image, 4 _law_k, 5 _law_disks, 6 _law_models, 7 _law_turn, 8 _law_steps, 9 _law_at, 10 _law_deed_here, 11 _law_held, 12 _law_stood, 13 _law_due_here
abbrev s_Disk_init : Stmt := inClass (topS 21) 0
theorem sc_Disk_init : FnScope ["self", "image", "signs", "steps"] ["self", "image", "signs", "steps"] (defScope s_Disk_init) := ⟨rfl, rfl, rfl, by decide +kernel, rfl, by decide +kernel, by decide +kernel⟩
-- Disk_init: 0 self, 1 image, 2 signs, 3 steps
abbrev s_Disk_read : Stmt := inClass (topS 21) 1
theorem sc_Disk_read : FnScope ["self", "index", "place", "block"] ["self", "index"] (defScope s_Disk_read) := ⟨rfl, rfl, rfl, by decide +kernel, rfl, by decide +kernel, by decide +kernel⟩
-- Disk_read: 0 self, 1 index, 2 place, 3 block
abbrev s_Disk_write : Stmt := inClass (topS 21) 2
theorem sc_Disk_write : FnScope ["self", "index", "block"] ["self", "index", "block"] (defScope s_Disk_write) := ⟨rfl, rfl, rfl, by decide +kernel, rfl, by decide +kernel, by decide +kernel⟩
-- Disk_write: 0 self, 1 index, 2 block
abbrev s_Disk_flush : Stmt := inClass (topS 21) 3
theorem sc_Disk_flush : FnScope ["self", "blocks", "index", "block"] ["self"] (defScope s_Disk_flush) := ⟨rfl, rfl, rfl, by decide +kernel, rfl, by decide +kernel, by decide +kernel⟩
-- Disk_flush: 0 self, 1 blocks, 2 index, 3 block
abbrev s_Disk_behind : Stmt := inClass (topS 21) 4
theorem sc_Disk_behind : FnScope ["self", "choice", "offers", "picked", "blocks"] ["self", "choice"] (defScope s_Disk_behind) := ⟨rfl, rfl, rfl, by decide +kernel, rfl, by decide +kernel, by decide +kernel⟩
-- Disk_behind: 0 self, 1 choice, 2 offers, 3 picked, 4 blocks
abbrev s_Disk_offers : Stmt := inClass (topS 21) 6
theorem sc_Disk_offers : FnScope ["self", "offers", "block", "index"] ["self"] (defScope s_Disk_offers) := ⟨rfl, rfl, rfl, by decide +kernel, rfl, by decide +kernel, by decide +kernel⟩
-- Disk_offers: 0 self, 1 offers, 2 block, 3 index
abbrev s_Disk_need_power : Stmt := inClass (topS 21) 7
theorem sc_Disk_need_power : FnScope ["self"] ["self"] (defScope s_Disk_need_power) := ⟨rfl, rfl, rfl, by decide +kernel, rfl, by decide +kernel, by decide +kernel⟩
-- Disk_need_power: 0 self
abbrev s_Disk_take_step : Stmt := inClass (topS 21) 8
theorem sc_Disk_take_step : FnScope ["self"] ["self"] (defScope s_Disk_take_step) := ⟨rfl, rfl, rfl, by decide +kernel, rfl, by decide +kernel, by decide +kernel⟩
-- Disk_take_step: 0 self
/-! ### the facts -/
def g_kb_Disk_read_0 : List Value → List Value → List Value
  | [x0], [y0] => [x0, y0]
  | _, _ => []
def gV_kb_Disk_read_0 : List V → List V → List V
  | [x0], [y0] => [x0, y0]
  | _, _ => []
def g_kb_Disk_write_0 : List Value → List Value → List Value
  | [x0], [y0, y1] => [x0, y1, y0]
  | _, _ => []
def gV_kb_Disk_write_0 : List V → List V → List V
  | [x0], [y0, y1] => [x0, y1, y0]
  | _, _ => []
def g_kb_Disk_behind_0 : List Value → List Value → List Value
  | [x0], [y0] => [x0, y0]
  | _, _ => []
def gV_kb_Disk_behind_0 : List V → List V → List V
  | [x0], [y0] => [x0, y0]
  | _, _ => []
structure Fx (K : PySem.W.Frag) (mg : Str → Option Value) where
  a_is_text : Addr
  fd_is_text : FuncData
  F_is_text : Fun K "is_text" "is_text" s_is_text a_is_text fd_is_text
  g_is_text : mg "is_text" = some (.ref a_is_text)
  b_is_text : Binds K fd_is_text ["value"] []
  a_is_number : Addr
  fd_is_number : FuncData
  F_is_number : Fun K "is_number" "is_number" s_is_number a_is_number fd_is_number
  g_is_number : mg "is_number" = some (.ref a_is_number)
  b_is_number : Binds K fd_is_number ["value", "low", "high"] []
  a_is_block : Addr
  fd_is_block : FuncData
  F_is_block : Fun K "is_block" "is_block" s_is_block a_is_block fd_is_block
  g_is_block : mg "is_block" = some (.ref a_is_block)
  b_is_block : Binds K fd_is_block ["value", "signs"] []
  a_check_signs : Addr
  fd_check_signs : FuncData
  F_check_signs : Fun K "check_signs" "check_signs" s_check_signs a_check_signs fd_check_signs
  g_check_signs : mg "check_signs" = some (.ref a_check_signs)
  b_check_signs : Binds K fd_check_signs ["signs"] []
  a_check_image : Addr
  fd_check_image : FuncData
  F_check_image : Fun K "check_image" "check_image" s_check_image a_check_image fd_check_image
  g_check_image : mg "check_image" = some (.ref a_check_image)
  b_check_image : Binds K fd_check_image ["image", "signs"] []
  a_check_index : Addr
  fd_check_index : FuncData
  F_check_index : Fun K "check_index" "check_index" s_check_index a_check_index fd_check_index
  g_check_index : mg "check_index" = some (.ref a_check_index)
  b_check_index : Binds K fd_check_index ["index", "many"] []
  a_check_block : Addr
  fd_check_block : FuncData
  F_check_block : Fun K "check_block" "check_block" s_check_block a_check_block fd_check_block
  g_check_block : mg "check_block" = some (.ref a_check_block)
  b_check_block : Binds K fd_check_block ["block", "signs"] []
  a_check_from : Addr
  fd_check_from : FuncData
  F_check_from : Fun K "check_from" "check_from" s_check_from a_check_from fd_check_from
  g_check_from : mg "check_from" = some (.ref a_check_from)
  b_check_from : Binds K fd_check_from ["value", "low"] []
  a__law_spring : Addr
  fd__law_spring : FuncData
  F__law_spring : Fun K "_law_spring" "_law_spring" s__law_spring a__law_spring fd__law_spring
  g__law_spring : mg "_law_spring" = some (.ref a__law_spring)
  b__law_spring : Binds K fd__law_spring ["_law_script"] []
  a__law_drop : Addr
  fd__law_drop : FuncData
  F__law_drop : Fun K "_law_drop" "_law_drop" s__law_drop a__law_drop fd__law_drop
  g__law_drop : mg "_law_drop" = some (.ref a__law_drop)
  b__law_drop : Binds K fd__law_drop ["_law_spring_here", "_law_many"] []
  a__law_text : Addr
  fd__law_text : FuncData
  F__law_text : Fun K "_law_text" "_law_text" s__law_text a__law_text fd__law_text
  g__law_text : mg "_law_text" = some (.ref a__law_text)
  b__law_text : Binds K fd__law_text ["_law_spring_here", "_law_size"] []
  a__law_kinds : Addr
  fd__law_kinds : FuncData
  F__law_kinds : Fun K "_law_kinds" "_law_kinds" s__law_kinds a__law_kinds fd__law_kinds
  g__law_kinds : mg "_law_kinds" = some (.ref a__law_kinds)
  b__law_kinds : Binds K fd__law_kinds ["_law_thing"] []
  a__law_alike : Addr
  fd__law_alike : FuncData
  F__law_alike : Fun K "_law_alike" "_law_alike" s__law_alike a__law_alike fd__law_alike
  g__law_alike : mg "_law_alike" = some (.ref a__law_alike)
  b__law_alike : Binds K fd__law_alike ["_law_found", "_law_due_here"] []
  a__law_word : Addr
  fd__law_word : FuncData
  F__law_word : Fun K "_law_word" "_law_word" s__law_word a__law_word fd__law_word
  g__law_word : mg "_law_word" = some (.ref a__law_word)
  b__law_word : Binds K fd__law_word ["_law_caught"] []
  a__law_told : Addr
  fd__law_told : FuncData
  F__law_told : Fun K "_law_told" "_law_told" s__law_told a__law_told fd__law_told
  g__law_told : mg "_law_told" = some (.ref a__law_told)
  b__law_told : Binds K fd__law_told ["_law_disk", "_law_deed_here"] []
  a__law_newest : Addr
  fd__law_newest : FuncData
  F__law_newest : Fun K "_law_newest" "_law_newest" s__law_newest a__law_newest fd__law_newest
  g__law_newest : mg "_law_newest" = some (.ref a__law_newest)
  b__law_newest : Binds K fd__law_newest ["_law_model", "_law_index"] []
  a__law_due : Addr
  fd__law_due : FuncData
  F__law_due : Fun K "_law_due" "_law_due" s__law_due a__law_due fd__law_due
  g__law_due : mg "_law_due" = some (.ref a__law_due)
  b__law_due : Binds K fd__law_due ["_law_model", "_law_deed_here"] []
  a__law_deed : Addr
  fd__law_deed : FuncData
  F__law_deed : Fun K "_law_deed" "_law_deed" s__law_deed a__law_deed fd__law_deed
  g__law_deed : mg "_law_deed" = some (.ref a__law_deed)
  b__law_deed : Binds K fd__law_deed ["_law_spring_here", "_law_model"] []
  a__law_stands : Addr
  fd__law_stands : FuncData
  F__law_stands : Fun K "_law_stands" "_law_stands" s__law_stands a__law_stands fd__law_stands
  g__law_stands : mg "_law_stands" = some (.ref a__law_stands)
  b__law_stands : Binds K fd__law_stands ["_law_disk", "_law_model"] []
  a__law_behind_right : Addr
  fd__law_behind_right : FuncData
  F__law_behind_right : Fun K "_law_behind_right" "_law_behind_right" s__law_behind_right a__law_behind_right fd__law_behind_right
  g__law_behind_right : mg "_law_behind_right" = some (.ref a__law_behind_right)
  b__law_behind_right : Binds K fd__law_behind_right ["_law_spring_here", "_law_disk", "_law_model"] []
  a_law : Addr
  fd_law : FuncData
  F_law : Fun K "law" "law" s_law a_law fd_law
  g_law : mg "law" = some (.ref a_law)
  b_law : Binds K fd_law ["_law_script"] []
  a_Disk_init : Addr
  fd_Disk_init : FuncData
  F_Disk_init : FunD K "__init__" "Disk.__init__" (defArgs s_Disk_init) (defBody s_Disk_init) (defScope s_Disk_init) [.non] [] a_Disk_init fd_Disk_init
  b_Disk_init : Binds K fd_Disk_init ["self", "image", "signs", "steps"] []
  a_Disk_read : Addr
  fd_Disk_read : FuncData
  F_Disk_read : Fun K "read" "Disk.read" s_Disk_read a_Disk_read fd_Disk_read
  b_Disk_read : Binds K fd_Disk_read ["self", "index"] []
  a_Disk_write : Addr
  fd_Disk_write : FuncData
  F_Disk_write : Fun K "write" "Disk.write" s_Disk_write a_Disk_write fd_Disk_write
  b_Disk_write : Binds K fd_Disk_write ["self", "index", "block"] []
  a_Disk_flush : Addr
  fd_Disk_flush : FuncData
  F_Disk_flush : Fun K "flush" "Disk.flush" s_Disk_flush a_Disk_flush fd_Disk_flush
  b_Disk_flush : Binds K fd_Disk_flush ["self"] []
  a_Disk_behind : Addr
  fd_Disk_behind : FuncData
  F_Disk_behind : Fun K "behind" "Disk.behind" s_Disk_behind a_Disk_behind fd_Disk_behind
  b_Disk_behind : Binds K fd_Disk_behind ["self", "choice"] []
  a_Disk_offers : Addr
  fd_Disk_offers : FuncData
  F_Disk_offers : Fun K "offers" "Disk.offers" s_Disk_offers a_Disk_offers fd_Disk_offers
  b_Disk_offers : Binds K fd_Disk_offers ["self"] []
  a_Disk_need_power : Addr
  fd_Disk_need_power : FuncData
  F_Disk_need_power : Fun K "need_power" "Disk.need_power" s_Disk_need_power a_Disk_need_power fd_Disk_need_power
  b_Disk_need_power : Binds K fd_Disk_need_power ["self"] []
  a_Disk_take_step : Addr
  fd_Disk_take_step : FuncData
  F_Disk_take_step : Fun K "take_step" "Disk.take_step" s_Disk_take_step a_Disk_take_step fd_Disk_take_step
  b_Disk_take_step : Binds K fd_Disk_take_step ["self"] []
  kb_Disk_read_0 : KBinds K fd_Disk_read ["self", "index"] ["index"] g_kb_Disk_read_0 gV_kb_Disk_read_0
  kb_Disk_write_0 : KBinds K fd_Disk_write ["self", "index", "block"] ["block", "index"] g_kb_Disk_write_0 gV_kb_Disk_write_0
  kb_Disk_behind_0 : KBinds K fd_Disk_behind ["self", "choice"] ["choice"] g_kb_Disk_behind_0 gV_kb_Disk_behind_0
  C_Disk : Addr
  c_Disk : Cls K C_Disk
  gc_Disk : mg "Disk" = some (.ref C_Disk)
  mk_Disk : Mk K C_Disk a_Disk_init
  n_Disk_image : NoAttr K C_Disk "image"
  n_Disk_out : NoAttr K C_Disk "out"
  n_Disk_pending : NoAttr K C_Disk "pending"
  n_Disk_signs : NoAttr K C_Disk "signs"
  n_Disk_steps : NoAttr K C_Disk "steps"
  mm_Disk_read : Meth K C_Disk "read" a_Disk_read
  mm_Disk_write : Meth K C_Disk "write" a_Disk_write
  mm_Disk_flush : Meth K C_Disk "flush" a_Disk_flush
  mm_Disk_behind : Meth K C_Disk "behind" a_Disk_behind
  mm_Disk_offers : Meth K C_Disk "offers" a_Disk_offers
  mm_Disk_need_power : Meth K C_Disk "need_power" a_Disk_need_power
  mm_Disk_take_step : Meth K C_Disk "take_step" a_Disk_take_step
  x_InvalidBlock : Addr
  q_InvalidBlock : mg "InvalidBlock" = some (.ref x_InvalidBlock)
  x_InvalidIndex : Addr
  q_InvalidIndex : mg "InvalidIndex" = some (.ref x_InvalidIndex)
  x_PowerCut : Addr
  q_PowerCut : mg "PowerCut" = some (.ref x_PowerCut)
  x_StoreError : Addr
  q_StoreError : mg "StoreError" = some (.ref x_StoreError)
  e_InvalidBlock : PySem.W.excIn K x_InvalidBlock [.type "ValueError", .type "Exception", .type "BaseException", .type "object"] "ValueError.__new__" = true
  k_InvalidBlock : PySem.W.keepIn K (.ref x_InvalidBlock) = true
  s_InvalidBlock : PySem.W.subIn K (.ref x_InvalidBlock) (.type "BaseException") = some true
  t_InvalidBlock : PySem.W.typeIn K (.ref x_InvalidBlock) = some (.type "type")
  m_InvalidBlock_InvalidBlock : PySem.W.exmOne K (.ref x_InvalidBlock) (.ref x_InvalidBlock) = some true
  m_InvalidBlock_InvalidIndex : PySem.W.exmOne K (.ref x_InvalidBlock) (.ref x_InvalidIndex) = some false
  m_InvalidBlock_PowerCut : PySem.W.exmOne K (.ref x_InvalidBlock) (.ref x_PowerCut) = some false
  m_InvalidBlock_StoreError : PySem.W.exmOne K (.ref x_InvalidBlock) (.ref x_StoreError) = some true
  e_InvalidIndex : PySem.W.excIn K x_InvalidIndex [.type "ValueError", .type "Exception", .type "BaseException", .type "object"] "ValueError.__new__" = true
  k_InvalidIndex : PySem.W.keepIn K (.ref x_InvalidIndex) = true
  s_InvalidIndex : PySem.W.subIn K (.ref x_InvalidIndex) (.type "BaseException") = some true
  t_InvalidIndex : PySem.W.typeIn K (.ref x_InvalidIndex) = some (.type "type")
  m_InvalidIndex_InvalidBlock : PySem.W.exmOne K (.ref x_InvalidIndex) (.ref x_InvalidBlock) = some false
  m_InvalidIndex_InvalidIndex : PySem.W.exmOne K (.ref x_InvalidIndex) (.ref x_InvalidIndex) = some true
  m_InvalidIndex_PowerCut : PySem.W.exmOne K (.ref x_InvalidIndex) (.ref x_PowerCut) = some false
  m_InvalidIndex_StoreError : PySem.W.exmOne K (.ref x_InvalidIndex) (.ref x_StoreError) = some true
  e_PowerCut : PySem.W.excIn K x_PowerCut [.type "ValueError", .type "Exception", .type "BaseException", .type "object"] "ValueError.__new__" = true
  k_PowerCut : PySem.W.keepIn K (.ref x_PowerCut) = true
  s_PowerCut : PySem.W.subIn K (.ref x_PowerCut) (.type "BaseException") = some true
  t_PowerCut : PySem.W.typeIn K (.ref x_PowerCut) = some (.type "type")
  m_PowerCut_InvalidBlock : PySem.W.exmOne K (.ref x_PowerCut) (.ref x_InvalidBlock) = some false
  m_PowerCut_InvalidIndex : PySem.W.exmOne K (.ref x_PowerCut) (.ref x_InvalidIndex) = some false
  m_PowerCut_PowerCut : PySem.W.exmOne K (.ref x_PowerCut) (.ref x_PowerCut) = some true
  m_PowerCut_StoreError : PySem.W.exmOne K (.ref x_PowerCut) (.ref x_StoreError) = some true
  z_InvalidBlock : ExcC K x_InvalidBlock
  z_InvalidIndex : ExcC K x_InvalidIndex
  z_PowerCut : ExcC K x_PowerCut
  i_InvalidBlock_InvalidBlock : PySem.W.kitOne K (.ref x_InvalidBlock) (.ref x_InvalidBlock) = some true
  i_InvalidBlock_InvalidIndex : PySem.W.kitOne K (.ref x_InvalidBlock) (.ref x_InvalidIndex) = some false
  i_InvalidBlock_PowerCut : PySem.W.kitOne K (.ref x_InvalidBlock) (.ref x_PowerCut) = some false
  i_InvalidIndex_InvalidBlock : PySem.W.kitOne K (.ref x_InvalidIndex) (.ref x_InvalidBlock) = some false
  i_InvalidIndex_InvalidIndex : PySem.W.kitOne K (.ref x_InvalidIndex) (.ref x_InvalidIndex) = some true
  i_InvalidIndex_PowerCut : PySem.W.kitOne K (.ref x_InvalidIndex) (.ref x_PowerCut) = some false
  i_PowerCut_InvalidBlock : PySem.W.kitOne K (.ref x_PowerCut) (.ref x_InvalidBlock) = some false
  i_PowerCut_InvalidIndex : PySem.W.kitOne K (.ref x_PowerCut) (.ref x_InvalidIndex) = some false
  i_PowerCut_PowerCut : PySem.W.kitOne K (.ref x_PowerCut) (.ref x_PowerCut) = some true
  m_all : mg "all" = none
  m_bool : mg "bool" = none
  m_int : mg "int" = none
  m_isinstance : mg "isinstance" = none
  m_len : mg "len" = none
  m_list : mg "list" = none
  m_range : mg "range" = none
  m_reversed : mg "reversed" = none
  m_str : mg "str" = none
  m_tuple : mg "tuple" = none
  m_type : mg "type" = none
  m_zip : mg "zip" = none

/-! ### the bodies -/
section
variable {P : Program} {w : World} {K : PySem.W.Frag} {mg : Str → Option Value} {base : Heap}
def t_is_text (K : PySem.W.Frag)  : TS :=
    (tRet (tAndV (tOp (rIS K) (tCB (rTyp K) (tCons (tVar 0) tNil)) (tC (.ty "str"))) (tAndV (tBM0 K "str" rM_isascii (tVar 0)) (tBM0 K "str" rM_isprintable (tVar 0)))))
theorem b_is_text (Y : Fx K mg)   {f : Addr} {cdv : Value} {A : Around} {outer : List Env} {s : Shared} {H : Hp} {E : XK} (hr : Room 0 (A.deeper (envOfC "is_text" (defScope s_is_text) s.heap.objs.size f cdv))) :
    PSs (cxOf CX0 P w K mg base ["value"] "is_text" (defScope s_is_text) f cdv A outer s H E).nox (defBody s_is_text) (t_is_text K ) :=
    (pss_one (ps_ret (pe_and (pe_cmpR op_IS (pe_callTy call_type1 (by rfl) Y.m_type (by decide +kernel) (pa_cons (pv 0) pa_nil)) (pe_bltn (v := .ty "str") (by rfl) Y.m_str (by decide +kernel) rfl) (nomark _)) (pe_and (pe_bm0 PySem.F.plainAttrs_str PySem.F.slot_str_isascii PySem.F.type_str_isascii mt_isascii (pv 0)) (pe_one (pe_bm0 PySem.F.plainAttrs_str PySem.F.slot_str_isprintable PySem.F.type_str_isprintable mt_isprintable (pv 0)))))))
def t_is_number (K : PySem.W.Frag)  : TS :=
    (tRet (tAndV (tOp (rIS K) (tCB (rTyp K) (tCons (tVar 0) tNil)) (tC (.ty "int"))) (tChain rLE rLE (tVar 1) (tVar 0) (tVar 2))))
theorem b_is_number (Y : Fx K mg)   {f : Addr} {cdv : Value} {A : Around} {outer : List Env} {s : Shared} {H : Hp} {E : XK} (hr : Room 0 (A.deeper (envOfC "is_number" (defScope s_is_number) s.heap.objs.size f cdv))) :
    PSs (cxOf CX0 P w K mg base ["value", "low", "high"] "is_number" (defScope s_is_number) f cdv A outer s H E).nox (defBody s_is_number) (t_is_number K ) :=
    (pss_one (ps_ret (pe_and (pe_cmpR op_IS (pe_callTy call_type1 (by rfl) Y.m_type (by decide +kernel) (pa_cons (pv 0) pa_nil)) (pe_bltn (v := .ty "int") (by rfl) Y.m_int (by decide +kernel) rfl) (nomark _)) (pe_one (pe_chain op_LE op_LE (pv 1) (pv 0) (pv 2))))))
def t_is_block (K : PySem.W.Frag) (sp_is_text : PySem.W.Frag → Sp) : TS :=
    (tRet (tAndV (tCall (sp_is_text K) [] E0 (tCons (tVar 0) tNil)) (tOp rLE (tCB (rLEN K) (tCons (tVar 0) tNil)) (tVar 1))))
theorem b_is_block (Y : Fx K mg) {sp_is_text : PySem.W.Frag → Sp} (G_is_text : FnOk P w K mg base CX0 1 Y.a_is_text Y.fd_is_text ["value"] (sp_is_text K)) {f : Addr} {cdv : Value} {A : Around} {outer : List Env} {s : Shared} {H : Hp} {E : XK} (hr : Room 1 (A.deeper (envOfC "is_block" (defScope s_is_block) s.heap.objs.size f cdv))) :
    PSs (cxOf CX0 P w K mg base ["value", "signs"] "is_block" (defScope s_is_block) f cdv A outer s H E).nox (defBody s_is_block) (t_is_block K sp_is_text) :=
    (pss_one (ps_ret (pe_and (pe_call G_is_text (hr.mono (by decide)) (by rfl) Y.g_is_text Y.F_is_text.kp Y.b_is_text .nil pass0 (pa_cons (pv 0) pa_nil)) (pe_one (pe_cmpR op_LE (pe_callB call_LEN (by rfl) Y.m_len (by decide +kernel) (pa_cons (pv 0) pa_nil)) (pv 1) (nomark _))))))
def t_check_signs (K : PySem.W.Frag) (sp_is_number : PySem.W.Frag → Sp) : TS :=
    (tIfS (tNot (tTru1 K (tCall (sp_is_number K) [] E0 (tCons (tVar 0) (tCons (tC (.int 100)) (tCons (tC (.int 1000)) tNil)))))) tNever tNext)
theorem b_check_signs (Y : Fx K mg) {sp_is_number : PySem.W.Frag → Sp} (G_is_number : FnOk P w K mg base CX0 1 Y.a_is_number Y.fd_is_number ["value", "low", "high"] (sp_is_number K)) {f : Addr} {cdv : Value} {A : Around} {outer : List Env} {s : Shared} {H : Hp} {E : XK} (hr : Room 1 (A.deeper (envOfC "check_signs" (defScope s_check_signs) s.heap.objs.size f cdv))) :
    PSs (cxOf CX0 P w K mg base ["signs"] "check_signs" (defScope s_check_signs) f cdv A outer s H E).nox (defBody s_check_signs) (t_check_signs K sp_is_number) :=
    (pss_one (ps_if (pt_not (pt_tru (pe_call G_is_number (hr.mono (by decide)) (by rfl) Y.g_is_number Y.F_is_number.kp Y.b_is_number .nil pass0 (pa_cons (pv 0) (pa_cons pe_int (pa_cons pe_int pa_nil)))) (by intro _; rfl))) (pss_one ps_never) pss_nil))
def t_check_image (K : PySem.W.Frag) (sp_is_block : PySem.W.Frag → Sp) : TS :=
    (tSeq (tIfS (tOr (tTest (tOp (rISN K) (tCB (rTyp K) (tCons (tVar 0) tNil)) (tC (.ty "tuple")))) (tNot (tTest (tChain rLE rLE (tC (.int 4)) (tCB (rLEN K) (tCons (tVar 0) tNil)) (tC (.int 200)))))) tNever tNext)
    (tIfS (tNot (tTru1 K (tCB (rAll K) (tCons (tLc (iTup K (tVar 0)) (gName 2) tYes (tCall (sp_is_block K) [] E0 (tCons (tVar 2) (tCons (tVar 1) tNil))) [2]) tNil)))) tNever tNext))
theorem b_check_image (Y : Fx K mg) {sp_is_block : PySem.W.Frag → Sp} (G_is_block : FnOk P w K mg base CX0 2 Y.a_is_block Y.fd_is_block ["value", "signs"] (sp_is_block K)) {f : Addr} {cdv : Value} {A : Around} {outer : List Env} {s : Shared} {H : Hp} {E : XK} (hr : Room 2 (A.deeper (envOfC "check_image" (defScope s_check_image) s.heap.objs.size f cdv))) :
    PSs (cxOf CX0 P w K mg base ["image", "signs", "block"] "check_image" (defScope s_check_image) f cdv A outer s H E).nox (defBody s_check_image) (t_check_image K sp_is_block) :=
    (pss_cons (ps_if (PW.pt (pw_or (pt_cmpR op_ISN (pe_callTy call_type1 (by rfl) Y.m_type (by decide +kernel) (pa_cons (pv 0) pa_nil)) (pe_bltn (v := .ty "tuple") (by rfl) Y.m_tuple (by decide +kernel) rfl) (nomark _)) (pw_or1 (pt_not (pt_chain op_LE op_LE pe_int (pe_callB call_LEN (by rfl) Y.m_len (by decide +kernel) (pa_cons (pv 0) pa_nil)) pe_int))))) (pss_one ps_never) pss_nil)
    (pss_one (ps_if (pt_not (pt_tru (pe_callB (cr_all rfl) (by rfl) Y.m_all (by decide +kernel) (pa_cons (pe_lc (own := [("block", 2)]) (by rfl) sc_check_image.nd (pi_tup (pv 0)) (blkOk_by (own := [("block", 2)]) (N := ["image", "signs", "block"]) (sc := defScope s_check_image) (by decide +kernel)) (fun _ _ _ _ _ => (pg_name (i := 2) sc_check_image.nd rfl (Or.inl rfl))) (fun _ _ _ _ _ => pts_nil) (fun _ _ _ _ _ => (pe_call G_is_block (hr.mono (by decide)) (by rfl) Y.g_is_block Y.F_is_block.kp Y.b_is_block .nil pass0 (pa_cons (pv 2) (pa_cons (pv 1) pa_nil))))) pa_nil)) (by intro _; rfl))) (pss_one ps_never) pss_nil)))
def t_check_index (K : PySem.W.Frag) {mg : Str → Option Value} (Y : Fx K mg) (E : XK) (sp_is_number : PySem.W.Frag → Sp) : TS :=
    (tIfS (tNot (tTru1 K (tCall (sp_is_number K) [] E0 (tCons (tVar 0) (tCons (tC (.int 0)) (tCons (tOp rSUB (tVar 1) (tC (.int 1))) tNil)))))) (tRaise (.ref Y.x_InvalidIndex) E) tNext)
theorem b_check_index (Y : Fx K mg) {sp_is_number : PySem.W.Frag → Sp} (G_is_number : FnOk P w K mg base CX0 1 Y.a_is_number Y.fd_is_number ["value", "low", "high"] (sp_is_number K)) {f : Addr} {cdv : Value} {A : Around} {outer : List Env} {s : Shared} {H : Hp} {E : XK} (hr : Room 1 (A.deeper (envOfC "check_index" (defScope s_check_index) s.heap.objs.size f cdv))) :
    PSs (cxOf (L2.CX P w) P w K mg base ["index", "many"] "check_index" (defScope s_check_index) f cdv A outer s H E) (defBody s_check_index) (t_check_index K Y E sp_is_number) :=
    (pss_one (ps_if (pt_not (pt_tru (pe_call G_is_number (hr.mono (by decide)) (by rfl) Y.g_is_number Y.F_is_number.kp Y.b_is_number .nil pass0 (pa_cons (pv 0) (pa_cons pe_int (pa_cons (pe_op op_SUB (pv 1) pe_int) pa_nil)))) (by intro _; rfl))) (pss_one (ps_raiseE rfl (takes_of rfl rfl rfl rfl) PySem.F.excBase_ValueError Y.e_InvalidIndex Y.q_InvalidIndex Y.k_InvalidIndex (raises_own Y.s_InvalidIndex Y.t_InvalidIndex) (by rfl))) pss_nil))
def t_check_block (K : PySem.W.Frag) {mg : Str → Option Value} (Y : Fx K mg) (E : XK) (sp_is_block : PySem.W.Frag → Sp) : TS :=
    (tIfS (tNot (tTru1 K (tCall (sp_is_block K) [] E0 (tCons (tVar 0) (tCons (tVar 1) tNil))))) (tRaise (.ref Y.x_InvalidBlock) E) tNext)
theorem b_check_block (Y : Fx K mg) {sp_is_block : PySem.W.Frag → Sp} (G_is_block : FnOk P w K mg base CX0 2 Y.a_is_block Y.fd_is_block ["value", "signs"] (sp_is_block K)) {f : Addr} {cdv : Value} {A : Around} {outer : List Env} {s : Shared} {H : Hp} {E : XK} (hr : Room 2 (A.deeper (envOfC "check_block" (defScope s_check_block) s.heap.objs.size f cdv))) :
    PSs (cxOf (L2.CX P w) P w K mg base ["block", "signs"] "check_block" (defScope s_check_block) f cdv A outer s H E) (defBody s_check_block) (t_check_block K Y E sp_is_block) :=
    (pss_one (ps_if (pt_not (pt_tru (pe_call G_is_block (hr.mono (by decide)) (by rfl) Y.g_is_block Y.F_is_block.kp Y.b_is_block .nil pass0 (pa_cons (pv 0) (pa_cons (pv 1) pa_nil))) (by intro _; rfl))) (pss_one (ps_raiseE rfl (takes_of rfl rfl rfl rfl) PySem.F.excBase_ValueError Y.e_InvalidBlock Y.q_InvalidBlock Y.k_InvalidBlock (raises_own Y.s_InvalidBlock Y.t_InvalidBlock) (by rfl))) pss_nil))
def t_check_from (K : PySem.W.Frag)  : TS :=
    (tIfS (tOr (tTest (tOp (rISN K) (tCB (rTyp K) (tCons (tVar 0) tNil)) (tC (.ty "int")))) (tTest (tOp rLT (tVar 0) (tVar 1)))) tNever tNext)
theorem b_check_from (Y : Fx K mg)   {f : Addr} {cdv : Value} {A : Around} {outer : List Env} {s : Shared} {H : Hp} {E : XK} (hr : Room 0 (A.deeper (envOfC "check_from" (defScope s_check_from) s.heap.objs.size f cdv))) :
    PSs (cxOf CX0 P w K mg base ["value", "low"] "check_from" (defScope s_check_from) f cdv A outer s H E).nox (defBody s_check_from) (t_check_from K ) :=
    (pss_one (ps_if (PW.pt (pw_or (pt_cmpR op_ISN (pe_callTy call_type1 (by rfl) Y.m_type (by decide +kernel) (pa_cons (pv 0) pa_nil)) (pe_bltn (v := .ty "int") (by rfl) Y.m_int (by decide +kernel) rfl) (nomark _)) (pw_or1 (pt_cmpR op_LT (pv 0) (pv 1) (nomark _))))) (pss_one ps_never) pss_nil))
def t__law_spring (K : PySem.W.Frag)  : TS :=
    (tSeq (tAsg (tLc (iList K (tVar 0)) (gName 2) (tTest (tOp rGE (tVar 2) (tOp rPOW (tC (.int 10)) (tC (.int 18))))) (tOp rSUB (tVar 2) (tOp rPOW (tC (.int 10)) (tC (.int 18)))) [2]) (gName 1))
    (tSeq (tAsg (tOp (rADD K) (tC (.int 15485863)) (tOp (rMUL K) (tC (.int 2)) (tCB (rLEN K) (tCons (tVar 0) tNil)))) (gName 3))
    (tSeq (tFor (iList K (tVar 0)) (gName 2) (tAsg (tOp rMOD (tCB rINT (tCons (tOp (rADD K) (tOp (rADD K) (tOp (rMUL K) (tVar 3) (tC (.int 982451653))) (tOp (rMUL K) (tVar 2) (tC (.int 49979687)))) (tC (.int 32452843))) tNil)) (tC (.int 2305843009213693951))) (gName 3)))
    (tRet (tLst (tCons (tVar 1) (tCons (tVar 3) (tCons (tC (.int 0)) tNil))))))))
theorem b__law_spring (Y : Fx K mg)   {f : Addr} {cdv : Value} {A : Around} {outer : List Env} {s : Shared} {H : Hp} {E : XK} (hr : Room 0 (A.deeper (envOfC "_law_spring" (defScope s__law_spring) s.heap.objs.size f cdv))) :
    PSs (cxOf CX0 P w K mg base ["_law_script", "_law_great", "_law_cell", "_law_mixed"] "_law_spring" (defScope s__law_spring) f cdv A outer s H E).nox (defBody s__law_spring) (t__law_spring K ) :=
    (pss_cons (ps_setLc (i := 1) (own := [("_law_cell", 2)]) (by rfl) sc__law_spring.nd rfl rfl (sw_true rfl rfl rfl (by decide +kernel)) (pi_list (pv 0)) (blkOk_by (own := [("_law_cell", 2)]) (N := ["_law_script", "_law_great", "_law_cell", "_law_mixed"]) (sc := defScope s__law_spring) (by decide +kernel)) (fun _ _ _ _ _ => (pg_name (i := 2) sc__law_spring.nd rfl (Or.inl rfl))) (fun _ _ _ _ _ => (pts_one (pt_cmpR op_GE (pv 2) (pe_op op_POW pe_int pe_int) (nomark _)))) (fun _ _ _ _ _ => (pe_op op_SUB (pv 2) (pe_op op_POW pe_int pe_int))))
    (pss_cons (ps_set (i := 3) sc__law_spring.nd rfl (Or.inl rfl) (pe_op op_ADD pe_int (pe_op op_MUL pe_int (pe_callB call_LEN (by rfl) Y.m_len (by decide +kernel) (pa_cons (pv 0) pa_nil)))))
    (pss_cons (ps_for PassesOwn.never rfl (pi_list (pv 0)) (pg_name (i := 2) sc__law_spring.nd rfl (Or.inl rfl)) (pss_one (ps_set (i := 3) sc__law_spring.nd rfl (Or.inl rfl) (pe_op op_MOD (pe_callTy call_INT (by rfl) Y.m_int (by decide +kernel) (pa_cons (pe_op op_ADD (pe_op op_ADD (pe_op op_MUL (pv 3) pe_int) (pe_op op_MUL (pv 2) pe_int)) pe_int) pa_nil)) pe_int))))
    (pss_one (ps_ret (pe_lst (pa_cons (pv 1) (pa_cons (pv 3) (pa_cons pe_int pa_nil)))))))))
def t__law_drop (K : PySem.W.Frag)  : TS :=
    (tSeq (tAsg (tOp (rIX K) (tVar 0) (tC (.int 0))) (gName 2))
    (tSeq (tWhile (tAnd (tTest (tOp (rNE K) (tVar 2) (tLst tNil))) (tTest (tOp (rEQ K) (tOp (rIX K) (tVar 2) (tC (.int 0))) (tC (.int 0))))) (tDrop (tBM K "list" rPOP (tVar 2) (tCons (tC (.int 0)) tNil))))
    (tSeq (tIfS (tTest (tOp (rNE K) (tVar 2) (tLst tNil))) (tSeq (tAsg (tOp rMOD (tCB rINT (tCons (tOp (rIX K) (tVar 2) (tC (.int 0))) tNil)) (tVar 1)) (gName 3))
      (tSeq (tAsg (tOp rFDIV (tOp (rIX K) (tVar 2) (tC (.int 0))) (tVar 1)) (gSub (tVar 2) (tC (.int 0)) rSetL))
      (tRet (tVar 3)))) tNext)
    (tSeq (tAsg (tOp (rADD K) (tOp (rIX K) (tVar 0) (tC (.int 2))) (tC (.int 1))) (gSub (tVar 0) (tC (.int 2)) rSetL))
    (tSeq (tAsg (tOp rMOD (tCB rINT (tCons (tOp (rADD K) (tOp (rMUL K) (tOp (rIX K) (tVar 0) (tC (.int 1))) (tC (.int 6364136223846793005))) (tOp (rMUL K) (tOp (rIX K) (tVar 0) (tC (.int 2))) (tC (.int 1442695040888963407)))) tNil)) (tC (.int 2305843009213693951))) (gSub (tVar 0) (tC (.int 1)) rSetL))
    (tRet (tOp rMOD (tOp rFDIV (tOp rMOD (tCB rINT (tCons (tOp (rMUL K) (tOp (rIX K) (tVar 0) (tC (.int 1))) (tOp (rIX K) (tVar 0) (tC (.int 1)))) tNil)) (tC (.int 2305843009213693921))) (tC (.int 1048576))) (tVar 1))))))))
theorem b__law_drop (Y : Fx K mg)   {f : Addr} {cdv : Value} {A : Around} {outer : List Env} {s : Shared} {H : Hp} {E : XK} (hr : Room 0 (A.deeper (envOfC "_law_drop" (defScope s__law_drop) s.heap.objs.size f cdv))) :
    PSs (cxOf CX0 P w K mg base ["_law_spring_here", "_law_many", "_law_great", "_law_found"] "_law_drop" (defScope s__law_drop) f cdv A outer s H E).nox (defBody s__law_drop) (t__law_drop K ) :=
    (pss_cons (ps_set (i := 2) sc__law_drop.nd rfl (Or.inl rfl) (pe_ix ix_SEQ (pv 0) pe_int (fun _ _ => rfl)))
    (pss_cons (ps_while PassesOwn.never (PW.pt (pw_and (pt_cmpR (op_NE (hu_64 hr)) (pv 2) (pe_lst pa_nil) (nomark _)) (pw_and1 (pt_cmpR (op_EQ (hu_64 hr)) (pe_ix ix_SEQ (pv 2) pe_int (fun _ _ => rfl)) pe_int (nomark _))))) (pss_one (ps_expr (pe_bm PySem.F.plainAttrs_list PySem.F.slot_list_pop PySem.F.type_list_pop mt_POP (pv 2) (pa_cons pe_int pa_nil)))))
    (pss_cons (ps_if (pt_cmpR (op_NE (hu_64 hr)) (pv 2) (pe_lst pa_nil) (nomark _)) (pss_cons (ps_set (i := 3) sc__law_drop.nd rfl (Or.inl rfl) (pe_op op_MOD (pe_callTy call_INT (by rfl) Y.m_int (by decide +kernel) (pa_cons (pe_ix ix_SEQ (pv 2) pe_int (fun _ _ => rfl)) pa_nil)) (pv 1)))
      (pss_cons (ps_asg (pe_op op_FDIV (pe_ix ix_SEQ (pv 2) pe_int (fun _ _ => rfl)) (pv 1)) (pg_sub (pv 2) pe_int set_list))
      (pss_one (ps_ret (pv 3))))) pss_nil)
    (pss_cons (ps_asg (pe_op op_ADD (pe_ix ix_SEQ (pv 0) pe_int (fun _ _ => rfl)) pe_int) (pg_sub (pv 0) pe_int set_list))
    (pss_cons (ps_asg (pe_op op_MOD (pe_callTy call_INT (by rfl) Y.m_int (by decide +kernel) (pa_cons (pe_op op_ADD (pe_op op_MUL (pe_ix ix_SEQ (pv 0) pe_int (fun _ _ => rfl)) pe_int) (pe_op op_MUL (pe_ix ix_SEQ (pv 0) pe_int (fun _ _ => rfl)) pe_int)) pa_nil)) pe_int) (pg_sub (pv 0) pe_int set_list))
    (pss_one (ps_ret (pe_op op_MOD (pe_op op_FDIV (pe_op op_MOD (pe_callTy call_INT (by rfl) Y.m_int (by decide +kernel) (pa_cons (pe_op op_MUL (pe_ix ix_SEQ (pv 0) pe_int (fun _ _ => rfl)) (pe_ix ix_SEQ (pv 0) pe_int (fun _ _ => rfl))) pa_nil)) pe_int) pe_int) (pv 1)))))))))
def t__law_text (K : PySem.W.Frag) (sp__law_drop : PySem.W.Frag → Sp) : TS :=
    (tSeq (tAsg (tC (.str " !\"#$&'()*+,-./0123456789:;<=>?@ABCDEFGHIJKLMNOPQRSTUVWXYZ[\\]^_`abcdefghijklmnopqrstuvwxyz{|}~")) (gName 2))
    (Evl.tCut (tIfS (tTest (tOp (rEQ K) (tCall (sp__law_drop K) [] E0 (tCons (tVar 0) (tCons (tC (.int 4)) tNil))) (tC (.int 0)))) (tAsg (tC (.str "0123456789+.+.0 ")) (gName 2)) tNext)
    (tSeq (tAsg (tBM K "str" (rJoin K) (tC (.str "")) (tCons (tLc (iRng1 (tCons (tOp (rADD K) (tC (.int 1)) (tCall (sp__law_drop K) [] E0 (tCons (tVar 0) (tCons (tC (.int 4)) tNil)))) tNil)) (gName 4) tYes (tOp (rIX K) (tVar 2) (tCall (sp__law_drop K) [] E0 (tCons (tVar 0) (tCons (tCB (rLEN K) (tCons (tVar 2) tNil)) tNil)))) [4]) tNil)) (gName 3))
    (tSeq (tAsg (tSl (rSL K) (tOp (rMUL K) (tVar 3) (tVar 1)) tNoPart (tPart (tVar 1))) (gName 5))
    (tSeq (tAsg (tCall (sp__law_drop K) [] E0 (tCons (tVar 0) (tCons (tOp (rADD K) (tVar 1) (tC (.int 1))) tNil))) (gName 6))
    (tRet (tSl (rSL K) (tOp (rADD K) (tOp (rADD K) (tSl (rSL K) (tVar 5) tNoPart (tPart (tVar 6))) (tOp (rIX K) (tVar 2) (tCall (sp__law_drop K) [] E0 (tCons (tVar 0) (tCons (tCB (rLEN K) (tCons (tVar 2) tNil)) tNil))))) (tSl (rSL K) (tVar 5) (tPart (tOp (rADD K) (tVar 6) (tC (.int 1)))) tNoPart)) tNoPart (tPart (tVar 1)))))))))
theorem b__law_text (Y : Fx K mg) {sp__law_drop : PySem.W.Frag → Sp} (G__law_drop : FnOk P w K mg base CX0 1 Y.a__law_drop Y.fd__law_drop ["_law_spring_here", "_law_many"] (sp__law_drop K)) {f : Addr} {cdv : Value} {A : Around} {outer : List Env} {s : Shared} {H : Hp} {E : XK} (hr : Room 1 (A.deeper (envOfC "_law_text" (defScope s__law_text) s.heap.objs.size f cdv))) :
    PSs (cxOf CX0 P w K mg base ["_law_spring_here", "_law_size", "_law_signs", "_law_word_here", "_law_k", "_law_text_here", "_law_at"] "_law_text" (defScope s__law_text) f cdv A outer s H E).nox (defBody s__law_text) (t__law_text K sp__law_drop) :=
    (pss_cons (ps_set (i := 2) sc__law_text.nd rfl (Or.inr rfl) pe_str)
    (Evl.pss_cut (ps_if (pt_cmpR (op_EQ (hu_64 hr)) (pe_call G__law_drop (hr.mono (by decide)) (by rfl) Y.g__law_drop Y.F__law_drop.kp Y.b__law_drop .nil pass0 (pa_cons (pv 0) (pa_cons pe_int pa_nil))) pe_int (nomark _)) (pss_one (ps_set (i := 2) sc__law_text.nd rfl (Or.inr rfl) pe_str)) pss_nil)
    (pss_cons (ps_set (i := 3) sc__law_text.nd rfl (Or.inl rfl) (pe_bm PySem.F.plainAttrs_str PySem.F.slot_str_join PySem.F.type_str_join mt_join pe_str (pa_cons (pe_lc (own := [("_law_k", 4)]) (by rfl) sc__law_text.nd (pi_range1 (by rfl) Y.m_range (pa_cons (pe_op op_ADD pe_int (pe_call G__law_drop (hr.mono (by decide)) (by rfl) Y.g__law_drop Y.F__law_drop.kp Y.b__law_drop .nil pass0 (pa_cons (pv 0) (pa_cons pe_int pa_nil)))) pa_nil)) (blkOk_by (own := [("_law_k", 4)]) (N := ["_law_spring_here", "_law_size", "_law_signs", "_law_word_here", "_law_k", "_law_text_here", "_law_at"]) (sc := defScope s__law_text) (by decide +kernel)) (fun _ _ _ _ _ => (pg_name (i := 4) sc__law_text.nd rfl (Or.inl rfl))) (fun _ _ _ _ _ => pts_nil) (fun _ _ _ _ _ => (pe_ix ix_SEQ (pv 2) (pe_call G__law_drop (hr.mono (by decide)) (by rfl) Y.g__law_drop Y.F__law_drop.kp Y.b__law_drop .nil pass0 (pa_cons (pv 0) (pa_cons (pe_callB call_LEN (by rfl) Y.m_len (by decide +kernel) (pa_cons (pv 2) pa_nil)) pa_nil))) (fun _ _ => rfl)))) pa_nil)))
    (pss_cons (ps_set (i := 5) sc__law_text.nd rfl (Or.inl rfl) (pe_slice sl_SEQ (pe_op op_MUL (pv 3) (pv 1)) po_none (po_some (pv 1))))
    (pss_cons (ps_set (i := 6) sc__law_text.nd rfl (Or.inl rfl) (pe_call G__law_drop (hr.mono (by decide)) (by rfl) Y.g__law_drop Y.F__law_drop.kp Y.b__law_drop .nil pass0 (pa_cons (pv 0) (pa_cons (pe_op op_ADD (pv 1) pe_int) pa_nil))))
    (pss_one (ps_ret (pe_slice sl_SEQ (pe_op op_ADD (pe_op op_ADD (pe_slice sl_SEQ (pv 5) po_none (po_some (pv 6))) (pe_ix ix_SEQ (pv 2) (pe_call G__law_drop (hr.mono (by decide)) (by rfl) Y.g__law_drop Y.F__law_drop.kp Y.b__law_drop .nil pass0 (pa_cons (pv 0) (pa_cons (pe_callB call_LEN (by rfl) Y.m_len (by decide +kernel) (pa_cons (pv 2) pa_nil)) pa_nil))) (fun _ _ => rfl))) (pe_slice sl_SEQ (pv 5) (po_some (pe_op op_ADD (pv 6) pe_int)) po_none)) po_none (po_some (pv 1))))))))))
def t__law_kinds (K : PySem.W.Frag)  : TS :=
    (tSeq (tAsg (tLst (tCons (tCB (rISI K) (tCons (tVar 0) (tCons (tC (.ty "bool")) tNil))) (tCons (tCB (rISI K) (tCons (tVar 0) (tCons (tC (.ty "int")) tNil))) (tCons (tCB (rISI K) (tCons (tVar 0) (tCons (tC (.ty "str")) tNil))) tNil)))) (gName 1))
    (tRet (tOp (rADD K) (tVar 1) (tLst (tCons (tCB (rISI K) (tCons (tVar 0) (tCons (tC (.ty "tuple")) tNil))) (tCons (tCB (rISI K) (tCons (tVar 0) (tCons (tC (.ty "list")) tNil))) (tCons (tOp (rIS K) (tVar 0) (tC .non)) tNil)))))))
theorem b__law_kinds (Y : Fx K mg)   {f : Addr} {cdv : Value} {A : Around} {outer : List Env} {s : Shared} {H : Hp} {E : XK} (hr : Room 0 (A.deeper (envOfC "_law_kinds" (defScope s__law_kinds) s.heap.objs.size f cdv))) :
    PSs (cxOf CX0 P w K mg base ["_law_thing", "_law_found"] "_law_kinds" (defScope s__law_kinds) f cdv A outer s H E).nox (defBody s__law_kinds) (t__law_kinds K ) :=
    (pss_cons (ps_set (i := 1) sc__law_kinds.nd rfl (Or.inl rfl) (pe_lst (pa_cons (pe_callB call_ISI (by rfl) Y.m_isinstance (by decide +kernel) (pa_cons (pv 0) (pa_cons (pe_bltn (v := .ty "bool") (by rfl) Y.m_bool (by decide +kernel) rfl) pa_nil))) (pa_cons (pe_callB call_ISI (by rfl) Y.m_isinstance (by decide +kernel) (pa_cons (pv 0) (pa_cons (pe_bltn (v := .ty "int") (by rfl) Y.m_int (by decide +kernel) rfl) pa_nil))) (pa_cons (pe_callB call_ISI (by rfl) Y.m_isinstance (by decide +kernel) (pa_cons (pv 0) (pa_cons (pe_bltn (v := .ty "str") (by rfl) Y.m_str (by decide +kernel) rfl) pa_nil))) pa_nil)))))
    (pss_one (ps_ret (pe_op op_ADD (pv 1) (pe_lst (pa_cons (pe_callB call_ISI (by rfl) Y.m_isinstance (by decide +kernel) (pa_cons (pv 0) (pa_cons (pe_bltn (v := .ty "tuple") (by rfl) Y.m_tuple (by decide +kernel) rfl) pa_nil))) (pa_cons (pe_callB call_ISI (by rfl) Y.m_isinstance (by decide +kernel) (pa_cons (pv 0) (pa_cons (pe_bltn (v := .ty "list") (by rfl) Y.m_list (by decide +kernel) rfl) pa_nil))) (pa_cons (pe_cmpR op_IS (pv 0) pe_non (nomark _)) pa_nil))))))))
def t__law_alike (K : PySem.W.Frag) (sp__law_alike : PySem.W.Frag → Sp) (sp__law_kinds : PySem.W.Frag → Sp) : TS :=
    (tSeq (tIfS (tTest (tOp (rNE K) (tCall (sp__law_kinds K) [] E0 (tCons (tVar 0) tNil)) (tCall (sp__law_kinds K) [] E0 (tCons (tVar 1) tNil)))) (tRet (tC (.bl false))) tNext)
    (tSeq (tIfS (tTru1 K (tCB (rISI K) (tCons (tVar 1) (tCons (tTup (tCons (tC (.ty "tuple")) (tCons (tC (.ty "list")) tNil))) tNil)))) (tRet (tAndV (tOp (rEQ K) (tCB (rLEN K) (tCons (tVar 0) tNil)) (tCB (rLEN K) (tCons (tVar 1) tNil))) (tCB (rAll K) (tCons (tLc (iRng1 (tCons (tCB (rLEN K) (tCons (tVar 1) tNil)) tNil)) (gName 2) tYes (tCall (sp__law_alike K) [] E0 (tCons (tOp (rIX K) (tVar 0) (tVar 2)) (tCons (tOp (rIX K) (tVar 1) (tVar 2)) tNil))) [2]) tNil)))) tNext)
    (tRet (tOp (rEQ K) (tVar 0) (tVar 1)))))
theorem b__law_alike {n : Nat} (Y : Fx K mg) {sp__law_alike : PySem.W.Frag → Sp} {sp__law_kinds : PySem.W.Frag → Sp} (G__law_alike : FnOk P w K mg base CX0 n Y.a__law_alike Y.fd__law_alike ["_law_found", "_law_due_here"] (sp__law_alike K)) (G__law_kinds : FnOk P w K mg base CX0 1 Y.a__law_kinds Y.fd__law_kinds ["_law_thing"] (sp__law_kinds K)) {f : Addr} {cdv : Value} {A : Around} {outer : List Env} {s : Shared} {H : Hp} {E : XK} (hn : 1 ≤ n) (hr : Room n (A.deeper (envOfC "_law_alike" (defScope s__law_alike) s.heap.objs.size f cdv))) :
    PSs (cxOf CX0 P w K mg base ["_law_found", "_law_due_here", "_law_k"] "_law_alike" (defScope s__law_alike) f cdv A outer s H E).nox (defBody s__law_alike) (t__law_alike K sp__law_alike sp__law_kinds) :=
    (pss_cons (ps_if (pt_cmpR (op_NE (hu_64 hr)) (pe_call G__law_kinds (hr.mono (Nat.le_trans (by decide) hn)) (by rfl) Y.g__law_kinds Y.F__law_kinds.kp Y.b__law_kinds .nil pass0 (pa_cons (pv 0) pa_nil)) (pe_call G__law_kinds (hr.mono (Nat.le_trans (by decide) hn)) (by rfl) Y.g__law_kinds Y.F__law_kinds.kp Y.b__law_kinds .nil pass0 (pa_cons (pv 1) pa_nil)) (nomark _)) (pss_one (ps_ret pe_bl)) pss_nil)
    (pss_cons (ps_if (pt_tru (pe_callB call_ISI (by rfl) Y.m_isinstance (by decide +kernel) (pa_cons (pv 1) (pa_cons (pe_tup (pa_cons (pe_bltn (v := .ty "tuple") (by rfl) Y.m_tuple (by decide +kernel) rfl) (pa_cons (pe_bltn (v := .ty "list") (by rfl) Y.m_list (by decide +kernel) rfl) pa_nil))) pa_nil))) (by intro _; rfl)) (pss_one (ps_ret (pe_and (pe_cmpR (op_EQ (hu_64 hr)) (pe_callB call_LEN (by rfl) Y.m_len (by decide +kernel) (pa_cons (pv 0) pa_nil)) (pe_callB call_LEN (by rfl) Y.m_len (by decide +kernel) (pa_cons (pv 1) pa_nil)) (nomark _)) (pe_one (pe_callB (cr_all rfl) (by rfl) Y.m_all (by decide +kernel) (pa_cons (pe_lc (own := [("_law_k", 2)]) (by rfl) sc__law_alike.nd (pi_range1 (by rfl) Y.m_range (pa_cons (pe_callB call_LEN (by rfl) Y.m_len (by decide +kernel) (pa_cons (pv 1) pa_nil)) pa_nil)) (blkOk_by (own := [("_law_k", 2)]) (N := ["_law_found", "_law_due_here", "_law_k"]) (sc := defScope s__law_alike) (by decide +kernel)) (fun _ _ _ _ _ => (pg_name (i := 2) sc__law_alike.nd rfl (Or.inl rfl))) (fun _ _ _ _ _ => pts_nil) (fun _ _ _ _ _ => (pe_call G__law_alike hr (by rfl) Y.g__law_alike Y.F__law_alike.kp Y.b__law_alike .nil pass0 (pa_cons (pe_ix ix_SEQ (pv 0) (pv 2) (fun _ _ => rfl)) (pa_cons (pe_ix ix_SEQ (pv 1) (pv 2) (fun _ _ => rfl)) pa_nil))))) pa_nil)))))) pss_nil)
    (pss_one (ps_ret (pe_cmpR (op_EQ (hu_64 hr)) (pv 0) (pv 1) (nomark _))))))
def t__law_word (K : PySem.W.Frag) {mg : Str → Option Value} (Y : Fx K mg)  : TS :=
    (tSeq (tAsg (tLst (tCons (tCB (rIsK K) (tCons (tVar 0) (tCons (tC (.ref Y.x_InvalidIndex)) tNil))) (tCons (tCB (rIsK K) (tCons (tVar 0) (tCons (tC (.ref Y.x_InvalidBlock)) tNil))) (tCons (tCB (rIsK K) (tCons (tVar 0) (tCons (tC (.ref Y.x_PowerCut)) tNil))) tNil)))) (gName 1))
    (tSeq (tAsg (tLst (tCons (tC (.str "InvalidIndex")) (tCons (tC (.str "InvalidBlock")) (tCons (tC (.str "PowerCut")) tNil)))) (gName 2))
    (tSeq (tAsg (tLc (iRng1 (tCons (tC (.int 3)) tNil)) (gName 4) (tTru1 K (tOp (rIX K) (tVar 1) (tVar 4))) (tOp (rIX K) (tVar 2) (tVar 4)) [4]) (gName 3))
    (tRet (tIf (tTest (tOp (rEQ K) (tCB (rLEN K) (tCons (tVar 3) tNil)) (tC (.int 1)))) (tOp (rIX K) (tVar 3) (tC (.int 0))) (tC (.str "other")))))))
theorem b__law_word (Y : Fx K mg)   {f : Addr} {cdv : Value} {A : Around} {outer : List Env} {s : Shared} {H : Hp} {E : XK} (hr : Room 0 (A.deeper (envOfC "_law_word" (defScope s__law_word) s.heap.objs.size f cdv))) :
    PSs (cxOf CX0 P w K mg base ["_law_caught", "_law_kinds_here", "_law_names", "_law_found", "_law_k"] "_law_word" (defScope s__law_word) f cdv A outer s H E).nox (defBody s__law_word) (t__law_word K Y ) :=
    (pss_cons (ps_set (i := 1) sc__law_word.nd rfl (Or.inr rfl) (pe_lst (pa_cons (pe_callB call_isK (by rfl) Y.m_isinstance (by decide +kernel) (pa_cons (pv 0) (pa_cons (pe_glob (v := .ref Y.x_InvalidIndex) (by rfl) Y.q_InvalidIndex rfl) pa_nil))) (pa_cons (pe_callB call_isK (by rfl) Y.m_isinstance (by decide +kernel) (pa_cons (pv 0) (pa_cons (pe_glob (v := .ref Y.x_InvalidBlock) (by rfl) Y.q_InvalidBlock rfl) pa_nil))) (pa_cons (pe_callB call_isK (by rfl) Y.m_isinstance (by decide +kernel) (pa_cons (pv 0) (pa_cons (pe_glob (v := .ref Y.x_PowerCut) (by rfl) Y.q_PowerCut rfl) pa_nil))) pa_nil)))))
    (pss_cons (ps_set (i := 2) sc__law_word.nd rfl (Or.inr rfl) (pe_lst (pa_cons pe_str (pa_cons pe_str (pa_cons pe_str pa_nil)))))
    (pss_cons (ps_setLc (i := 3) (own := [("_law_k", 4)]) (by rfl) sc__law_word.nd rfl rfl (sw_true rfl rfl rfl (by decide +kernel)) (pi_range1 (by rfl) Y.m_range (pa_cons pe_int pa_nil)) (blkOk_by (own := [("_law_k", 4)]) (N := ["_law_caught", "_law_kinds_here", "_law_names", "_law_found", "_law_k"]) (sc := defScope s__law_word) (by decide +kernel)) (fun _ _ _ _ _ => (pg_name (i := 4) sc__law_word.nd rfl (Or.inl rfl))) (fun _ _ _ _ _ => (pts_one (pt_tru (pe_ix ix_SEQ (pv 1) (pv 4) (fun _ _ => rfl)) (by intro _; rfl)))) (fun _ _ _ _ _ => (pe_ix ix_SEQ (pv 2) (pv 4) (fun _ _ => rfl))))
    (pss_one (ps_ret (pe_ifExp (pt_cmpR (op_EQ (hu_64 hr)) (pe_callB call_LEN (by rfl) Y.m_len (by decide +kernel) (pa_cons (pv 3) pa_nil)) pe_int (nomark _)) (pe_ix ix_SEQ (pv 3) pe_int (fun _ _ => rfl)) pe_str))))))
def t__law_told (K : PySem.W.Frag) {mg : Str → Option Value} (Y : Fx K mg) (sp_Disk_flush : PySem.W.Frag → Sp) (sp_Disk_read : PySem.W.Frag → Sp) (sp_Disk_write : PySem.W.Frag → Sp) (sp__law_word : PySem.W.Frag → Sp) : TS :=
    (tSeq (tAsg (tTup (tCons (tC .non) (tCons (tC .non) tNil))) (gTup K 2 (gCons (gName 2) (gCons (gName 3) gNil))))
    (tSeq (tTryV K (.ref Y.x_StoreError) 4 2 W0 (fun W => (tSeq (tIfS (tTest (tOp (rEQ K) (tOp (rIX K) (tVar 1) (tC (.int 0))) (tC (.str "read")))) (tAsg (tLst (tCons (tMethS Y.C_Disk "read" (sp_Disk_read K) [] (WE W) (tVar 0) (tCons (tOp (rIX K) (tVar 1) (tC (.int 1))) tNil)) tNil)) (gName 3)) tNext)
        (tSeq (tIfS (tTest (tOp (rEQ K) (tOp (rIX K) (tVar 1) (tC (.int 0))) (tC (.str "read by name")))) (tAsg (tLst (tCons (tMethK Y.C_Disk "read" (sp_Disk_read K) gV_kb_Disk_read_0 (WE W) (tVar 0) (tCons (tOp (rIX K) (tVar 1) (tC (.int 1))) tNil)) tNil)) (gName 3)) tNext)
        (tSeq (tIfS (tTest (tOp (rEQ K) (tOp (rIX K) (tVar 1) (tC (.int 0))) (tC (.str "write")))) (tAsg (tLst (tCons (tMethS Y.C_Disk "write" (sp_Disk_write K) [] (WE W) (tVar 0) (tCons (tOp (rIX K) (tVar 1) (tC (.int 1))) (tCons (tOp (rIX K) (tVar 1) (tC (.int 2))) tNil))) tNil)) (gName 3)) tNext)
        (tSeq (tIfS (tTest (tOp (rEQ K) (tOp (rIX K) (tVar 1) (tC (.int 0))) (tC (.str "write by name")))) (tAsg (tLst (tCons (tMethK Y.C_Disk "write" (sp_Disk_write K) gV_kb_Disk_write_0 (WE W) (tVar 0) (tCons (tOp (rIX K) (tVar 1) (tC (.int 2))) (tCons (tOp (rIX K) (tVar 1) (tC (.int 1))) tNil))) tNil)) (gName 3)) tNext)
        (tIfS (tTest (tOp (rEQ K) (tOp (rIX K) (tVar 1) (tC (.int 0))) (tC (.str "flush")))) (tAsg (tLst (tCons (tMethS Y.C_Disk "flush" (sp_Disk_flush K) [] (WE W) (tVar 0) tNil) tNil)) (gName 3)) tNext)))))))
    (tRet (tIf (tTest (tOp (rIS K) (tVar 2) (tC .non))) (tVar 3) (tTup (tCons (tCall (sp__law_word K) [] E0 (tCons (tVar 2) tNil)) tNil))))))
theorem b__law_told (Y : Fx K mg) {sp_Disk_flush : PySem.W.Frag → Sp} {sp_Disk_read : PySem.W.Frag → Sp} {sp_Disk_write : PySem.W.Frag → Sp} {sp__law_word : PySem.W.Frag → Sp} (G_Disk_flush : FnOk P w K mg base (L2.CX P w) 3 Y.a_Disk_flush Y.fd_Disk_flush ["self"] (sp_Disk_flush K)) (G_Disk_read : FnOk P w K mg base (L2.CX P w) 3 Y.a_Disk_read Y.fd_Disk_read ["self", "index"] (sp_Disk_read K)) (G_Disk_write : FnOk P w K mg base (L2.CX P w) 4 Y.a_Disk_write Y.fd_Disk_write ["self", "index", "block"] (sp_Disk_write K)) (G__law_word : FnOk P w K mg base CX0 1 Y.a__law_word Y.fd__law_word ["_law_caught"] (sp__law_word K)) {f : Addr} {cdv : Value} {A : Around} {outer : List Env} {s : Shared} {H : Hp} {E : XK} (hr : Room 4 (A.deeper (envOfC "_law_told" (defScope s__law_told) s.heap.objs.size f cdv))) :
    PSs (cxOf CX0 P w K mg base ["_law_disk", "_law_deed_here", "_law_caught", "_law_told_here", "e"] "_law_told" (defScope s__law_told) f cdv A outer s H E).nox (defBody s__law_told) (t__law_told K Y sp_Disk_flush sp_Disk_read sp_Disk_write sp__law_word) :=
    (pss_cons (ps_asg (pe_tup (pa_cons pe_non (pa_cons pe_non pa_nil))) (pg_tup rfl (pgs_cons (pg_name (i := 2) sc__law_told.nd rfl (Or.inl rfl)) (pgs_cons (pg_name (i := 3) sc__law_told.nd rfl (Or.inl rfl)) pgs_nil))))
    (pss_cons (ps_try_hold (i := 4) (j := 2) (tb := fun W => (tSeq (tIfS (tTest (tOp (rEQ K) (tOp (rIX K) (tVar 1) (tC (.int 0))) (tC (.str "read")))) (tAsg (tLst (tCons (tMethS Y.C_Disk "read" (sp_Disk_read K) [] (WE W) (tVar 0) (tCons (tOp (rIX K) (tVar 1) (tC (.int 1))) tNil)) tNil)) (gName 3)) tNext)
        (tSeq (tIfS (tTest (tOp (rEQ K) (tOp (rIX K) (tVar 1) (tC (.int 0))) (tC (.str "read by name")))) (tAsg (tLst (tCons (tMethK Y.C_Disk "read" (sp_Disk_read K) gV_kb_Disk_read_0 (WE W) (tVar 0) (tCons (tOp (rIX K) (tVar 1) (tC (.int 1))) tNil)) tNil)) (gName 3)) tNext)
        (tSeq (tIfS (tTest (tOp (rEQ K) (tOp (rIX K) (tVar 1) (tC (.int 0))) (tC (.str "write")))) (tAsg (tLst (tCons (tMethS Y.C_Disk "write" (sp_Disk_write K) [] (WE W) (tVar 0) (tCons (tOp (rIX K) (tVar 1) (tC (.int 1))) (tCons (tOp (rIX K) (tVar 1) (tC (.int 2))) tNil))) tNil)) (gName 3)) tNext)
        (tSeq (tIfS (tTest (tOp (rEQ K) (tOp (rIX K) (tVar 1) (tC (.int 0))) (tC (.str "write by name")))) (tAsg (tLst (tCons (tMethK Y.C_Disk "write" (sp_Disk_write K) gV_kb_Disk_write_0 (WE W) (tVar 0) (tCons (tOp (rIX K) (tVar 1) (tC (.int 2))) (tCons (tOp (rIX K) (tVar 1) (tC (.int 1))) tNil))) tNil)) (gName 3)) tNext)
        (tIfS (tTest (tOp (rEQ K) (tOp (rIX K) (tVar 1) (tC (.int 0))) (tC (.str "flush")))) (tAsg (tLst (tCons (tMethS Y.C_Disk "flush" (sp_Disk_flush K) [] (WE W) (tVar 0) tNil) tNil)) (gName 3)) tNext)))))) (Wout := W0) rfl rfl rfl sc__law_told.nd rfl rfl rfl (Or.inl rfl) ⟨rfl, by decide, Or.inl Y.q_StoreError⟩ takes0 (fun W pn xe tk po => (pss_cons (ps_if (pt_cmpR (op_EQ (hu_64 hr)) (pe_ix ix_SEQ (pv 1) pe_int (fun _ _ => rfl)) pe_str (nomark _)) (pss_one (ps_set (i := 3) sc__law_told.nd rfl (Or.inl rfl) (pe_lst (pa_cons (pe_methS1 (pv 0) Y.c_Disk Y.mm_Disk_read G_Disk_read (hr.mono (by decide)) Y.b_Disk_read .nil (fun σ => passAt tk σ) (pa_cons (pe_ix ix_SEQ (pv 1) pe_int (fun _ _ => rfl)) pa_nil)) pa_nil)))) pss_nil)
        (pss_cons (ps_if (pt_cmpR (op_EQ (hu_64 hr)) (pe_ix ix_SEQ (pv 1) pe_int (fun _ _ => rfl)) pe_str (nomark _)) (pss_one (ps_set (i := 3) sc__law_told.nd rfl (Or.inl rfl) (pe_lst (pa_cons (pe_methK (pv 0) Y.c_Disk Y.mm_Disk_read G_Disk_read (hr.mono (by decide)) Y.kb_Disk_read_0 (fun σ => passAt tk σ) (pk_cons (pe_ix ix_SEQ (pv 1) pe_int (fun _ _ => rfl)) pk_nil)) pa_nil)))) pss_nil)
        (pss_cons (ps_if (pt_cmpR (op_EQ (hu_64 hr)) (pe_ix ix_SEQ (pv 1) pe_int (fun _ _ => rfl)) pe_str (nomark _)) (pss_one (ps_set (i := 3) sc__law_told.nd rfl (Or.inl rfl) (pe_lst (pa_cons (pe_methS1 (pv 0) Y.c_Disk Y.mm_Disk_write G_Disk_write (hr.mono (by decide)) Y.b_Disk_write .nil (fun σ => passAt tk σ) (pa_cons (pe_ix ix_SEQ (pv 1) pe_int (fun _ _ => rfl)) (pa_cons (pe_ix ix_SEQ (pv 1) pe_int (fun _ _ => rfl)) pa_nil))) pa_nil)))) pss_nil)
        (pss_cons (ps_if (pt_cmpR (op_EQ (hu_64 hr)) (pe_ix ix_SEQ (pv 1) pe_int (fun _ _ => rfl)) pe_str (nomark _)) (pss_one (ps_set (i := 3) sc__law_told.nd rfl (Or.inl rfl) (pe_lst (pa_cons (pe_methK (pv 0) Y.c_Disk Y.mm_Disk_write G_Disk_write (hr.mono (by decide)) Y.kb_Disk_write_0 (fun σ => passAt tk σ) (pk_cons (pe_ix ix_SEQ (pv 1) pe_int (fun _ _ => rfl)) (pk_cons (pe_ix ix_SEQ (pv 1) pe_int (fun _ _ => rfl)) pk_nil))) pa_nil)))) pss_nil)
        (pss_one (ps_if (pt_cmpR (op_EQ (hu_64 hr)) (pe_ix ix_SEQ (pv 1) pe_int (fun _ _ => rfl)) pe_str (nomark _)) (pss_one (ps_set (i := 3) sc__law_told.nd rfl (Or.inl rfl) (pe_lst (pa_cons (pe_methS0 (pv 0) Y.c_Disk Y.mm_Disk_flush G_Disk_flush (hr.mono (by decide)) Y.b_Disk_flush .nil (fun σ => passAt tk σ)) pa_nil)))) pss_nil))))))) (fun a pn => pss_one (ps_set (i := 2) sc__law_told.nd rfl (Or.inl rfl) (pv 4))))
    (pss_one (ps_ret (pe_ifExp (pt_cmpR op_IS (pv 2) pe_non (nomark _)) (pv 3) (pe_tup (pa_cons (pe_call G__law_word (hr.mono (by decide)) (by rfl) Y.g__law_word Y.F__law_word.kp Y.b__law_word .nil pass0 (pa_cons (pv 2) pa_nil)) pa_nil)))))))
def t__law_newest (K : PySem.W.Frag)  : TS :=
    (tRet (tOp (rADD K) (tLst (tCons (tOp (rIX K) (tDGet (tVar 0) (tC (.str "image"))) (tVar 1)) tNil)) (tLc (iList K (tDGet (tVar 0) (tC (.str "pending")))) (gTup K 2 (gCons (gName 2) (gCons (gName 3) gNil))) (tTest (tOp (rEQ K) (tVar 2) (tVar 1))) (tVar 3) [2, 3])))
theorem b__law_newest (Y : Fx K mg)   {f : Addr} {cdv : Value} {A : Around} {outer : List Env} {s : Shared} {H : Hp} {E : XK} (hr : Room 0 (A.deeper (envOfC "_law_newest" (defScope s__law_newest) s.heap.objs.size f cdv))) :
    PSs (cxOf CX0 P w K mg base ["_law_model", "_law_index", "_law_other", "_law_block"] "_law_newest" (defScope s__law_newest) f cdv A outer s H E).nox (defBody s__law_newest) (t__law_newest K ) :=
    (pss_one (ps_ret (pe_op op_ADD (pe_lst (pa_cons (pe_ix ix_SEQ (pe_dget (hu_of hr) (pv 0) pe_str (fun _ _ => rfl)) (pv 1) (fun _ _ => rfl)) pa_nil)) (pe_lc (own := [("_law_other", 2), ("_law_block", 3)]) (by rfl) sc__law_newest.nd (pi_list (pe_dget (hu_of hr) (pv 0) pe_str (fun _ _ => rfl))) (blkOk_by (own := [("_law_other", 2), ("_law_block", 3)]) (N := ["_law_model", "_law_index", "_law_other", "_law_block"]) (sc := defScope s__law_newest) (by decide +kernel)) (fun _ _ _ _ _ => (pg_tup rfl (pgs_cons (pg_name (i := 2) sc__law_newest.nd rfl (Or.inl rfl)) (pgs_cons (pg_name (i := 3) sc__law_newest.nd rfl (Or.inl rfl)) pgs_nil)))) (fun _ _ _ _ _ => (pts_one (pt_cmpR (op_EQ (hu_64 hr)) (pv 2) (pv 1) (nomark _)))) (fun _ _ _ _ _ => (pv 3))))))
def t__law_due (K : PySem.W.Frag) (sp__law_newest : PySem.W.Frag → Sp) : TS :=
    (tSeq (tPar 2 3 (tCons (tCB (rLEN K) (tCons (tDGet (tVar 0) (tC (.str "image"))) tNil)) (tCons (tSl (rSL K) (tOp (rIX K) (tVar 1) (tC (.int 0))) tNoPart (tPart (tC (.int 5)))) tNil)))
    (tSeq (tIfS (tAnd (tTest (tOp (rNE K) (tVar 3) (tC (.str "flush")))) (tOr (tNot (tTru1 K (tCB (rISI K) (tCons (tOp (rIX K) (tVar 1) (tC (.int 1))) (tCons (tC (.ty "int")) tNil))))) (tOr (tTru1 K (tCB (rISI K) (tCons (tOp (rIX K) (tVar 1) (tC (.int 1))) (tCons (tC (.ty "bool")) tNil)))) (tNot (tTest (tChain rLE rLT (tC (.int 0)) (tOp (rIX K) (tVar 1) (tC (.int 1))) (tVar 2))))))) (tRet (tTup (tCons (tC (.str "InvalidIndex")) tNil))) tNext)
    (tSeq (tIfS (tAnd (tTest (tOp (rEQ K) (tVar 3) (tC (.str "write")))) (tTru1 K (tOp (rIX K) (tVar 1) (tC (.int 3))))) (tRet (tTup (tCons (tC (.str "InvalidBlock")) tNil))) tNext)
    (tSeq (tIfS (tTru1 K (tDGet (tVar 0) (tC (.str "out")))) (tRet (tTup (tCons (tC (.str "PowerCut")) tNil))) tNext)
    (tSeq (tIfS (tTest (tOp (rEQ K) (tSl (rSL K) (tVar 3) tNoPart (tPart (tC (.int 4)))) (tC (.str "read")))) (tRet (tLst (tCons (tOp (rIX K) (tCall (sp__law_newest K) [] E0 (tCons (tVar 0) (tCons (tOp (rIX K) (tVar 1) (tC (.int 1))) tNil))) (tUn rNEG (tC (.int 1)))) tNil))) tNext)
    (tSeq (tIfS (tTest (tOp (rEQ K) (tDGet (tVar 0) (tC (.str "steps"))) (tC (.int 0)))) (tSeq (sDPut (tVar 0) (tC (.str "out")) (tC (.bl true)))
      (tRet (tTup (tCons (tC (.str "PowerCut")) tNil)))) tNext)
    (Evl.tCut (tIfS (tTest (tOp (rISN K) (tDGet (tVar 0) (tC (.str "steps"))) (tC .non))) (sDPut (tVar 0) (tC (.str "steps")) (tOp rSUB (tDGet (tVar 0) (tC (.str "steps"))) (tC (.int 1)))) tNext)
    (tSeq (tIfS (tTest (tOp (rEQ K) (tVar 3) (tC (.str "write")))) (sDPut (tVar 0) (tC (.str "pending")) (tOp (rADD K) (tDGet (tVar 0) (tC (.str "pending"))) (tLst (tCons (tTup (tCons (tOp (rIX K) (tVar 1) (tC (.int 1))) (tCons (tOp (rIX K) (tVar 1) (tC (.int 2))) tNil))) tNil)))) (tSeq (sDPut (tVar 0) (tC (.str "image")) (tCB (rTUPLE K) (tCons (tLc (iRng1 (tCons (tVar 2) tNil)) (gName 4) tYes (tOp (rIX K) (tCall (sp__law_newest K) [] E0 (tCons (tVar 0) (tCons (tVar 4) tNil))) (tUn rNEG (tC (.int 1)))) [4]) tNil)))
      (sDPut (tVar 0) (tC (.str "pending")) (tLst tNil))))
    (tRet (tLst (tCons (tC .non) tNil)))))))))))
theorem b__law_due (Y : Fx K mg) {sp__law_newest : PySem.W.Frag → Sp} (G__law_newest : FnOk P w K mg base CX0 1 Y.a__law_newest Y.fd__law_newest ["_law_model", "_law_index"] (sp__law_newest K)) {f : Addr} {cdv : Value} {A : Around} {outer : List Env} {s : Shared} {H : Hp} {E : XK} (hr : Room 1 (A.deeper (envOfC "_law_due" (defScope s__law_due) s.heap.objs.size f cdv))) :
    PSs (cxOf CX0 P w K mg base ["_law_model", "_law_deed_here", "_law_many", "_law_way", "_law_index"] "_law_due" (defScope s__law_due) f cdv A outer s H E).nox (defBody s__law_due) (t__law_due K sp__law_newest) :=
    (pss_cons (ps_par (i := 2) (j := 3) (by rfl) sc__law_due.nd rfl rfl (by decide) rfl rfl (pa_cons (pe_callB call_LEN (by rfl) Y.m_len (by decide +kernel) (pa_cons (pe_dget (hu_of hr) (pv 0) pe_str (fun _ _ => rfl)) pa_nil)) (pa_cons (pe_slice sl_SEQ (pe_ix ix_SEQ (pv 1) pe_int (fun _ _ => rfl)) po_none (po_some pe_int)) pa_nil)) (by rfl))
    (pss_cons (ps_if (PW.pt (pw_and (pt_cmpR (op_NE (hu_64 hr)) (pv 3) pe_str (nomark _)) (pw_and1 (PW.pt (pw_or (pt_not (pt_tru (pe_callB call_ISI (by rfl) Y.m_isinstance (by decide +kernel) (pa_cons (pe_ix ix_SEQ (pv 1) pe_int (fun _ _ => rfl)) (pa_cons (pe_bltn (v := .ty "int") (by rfl) Y.m_int (by decide +kernel) rfl) pa_nil))) (by intro _; rfl))) (pw_or (pt_tru (pe_callB call_ISI (by rfl) Y.m_isinstance (by decide +kernel) (pa_cons (pe_ix ix_SEQ (pv 1) pe_int (fun _ _ => rfl)) (pa_cons (pe_bltn (v := .ty "bool") (by rfl) Y.m_bool (by decide +kernel) rfl) pa_nil))) (by intro _; rfl)) (pw_or1 (pt_not (pt_chain op_LE op_LT pe_int (pe_ix ix_SEQ (pv 1) pe_int (fun _ _ => rfl)) (pv 2)))))))))) (pss_one (ps_ret (pe_tup (pa_cons pe_str pa_nil)))) pss_nil)
    (pss_cons (ps_if (PW.pt (pw_and (pt_cmpR (op_EQ (hu_64 hr)) (pv 3) pe_str (nomark _)) (pw_and1 (pt_tru (pe_ix ix_SEQ (pv 1) pe_int (fun _ _ => rfl)) (by intro _; rfl))))) (pss_one (ps_ret (pe_tup (pa_cons pe_str pa_nil)))) pss_nil)
    (pss_cons (ps_if (pt_tru (pe_dget (hu_of hr) (pv 0) pe_str (fun _ _ => rfl)) (by intro _; rfl)) (pss_one (ps_ret (pe_tup (pa_cons pe_str pa_nil)))) pss_nil)
    (pss_cons (ps_if (pt_cmpR (op_EQ (hu_64 hr)) (pe_slice sl_SEQ (pv 3) po_none (po_some pe_int)) pe_str (nomark _)) (pss_one (ps_ret (pe_lst (pa_cons (pe_ix ix_SEQ (pe_call G__law_newest (hr.mono (by decide)) (by rfl) Y.g__law_newest Y.F__law_newest.kp Y.b__law_newest .nil pass0 (pa_cons (pv 0) (pa_cons (pe_ix ix_SEQ (pv 1) pe_int (fun _ _ => rfl)) pa_nil))) (pe_un un_NEG pe_int) (fun _ _ => rfl)) pa_nil)))) pss_nil)
    (pss_cons (ps_if (pt_cmpR (op_EQ (hu_64 hr)) (pe_dget (hu_of hr) (pv 0) pe_str (fun _ _ => rfl)) pe_int (nomark _)) (pss_cons (ps_dput (hu_of hr) (pv 0) pe_str pe_bl (by rfl))
      (pss_one (ps_ret (pe_tup (pa_cons pe_str pa_nil))))) pss_nil)
    (Evl.pss_cut (ps_if (pt_cmpR op_ISN (pe_dget (hu_of hr) (pv 0) pe_str (fun _ _ => rfl)) pe_non (nomark _)) (pss_one (ps_dput (hu_of hr) (pv 0) pe_str (pe_op op_SUB (pe_dget (hu_of hr) (pv 0) pe_str (fun _ _ => rfl)) pe_int) (by rfl))) pss_nil)
    (pss_cons (ps_if (pt_cmpR (op_EQ (hu_64 hr)) (pv 3) pe_str (nomark _)) (pss_one (ps_dput (hu_of hr) (pv 0) pe_str (pe_op op_ADD (pe_dget (hu_of hr) (pv 0) pe_str (fun _ _ => rfl)) (pe_lst (pa_cons (pe_tup (pa_cons (pe_ix ix_SEQ (pv 1) pe_int (fun _ _ => rfl)) (pa_cons (pe_ix ix_SEQ (pv 1) pe_int (fun _ _ => rfl)) pa_nil))) pa_nil))) (by rfl))) (pss_cons (ps_dput (hu_of hr) (pv 0) pe_str (pe_callTy call_TUPLE (by rfl) Y.m_tuple (by decide +kernel) (pa_cons (pe_lc (own := [("_law_index", 4)]) (by rfl) sc__law_due.nd (pi_range1 (by rfl) Y.m_range (pa_cons (pv 2) pa_nil)) (blkOk_by (own := [("_law_index", 4)]) (N := ["_law_model", "_law_deed_here", "_law_many", "_law_way", "_law_index"]) (sc := defScope s__law_due) (by decide +kernel)) (fun _ _ _ _ _ => (pg_name (i := 4) sc__law_due.nd rfl (Or.inl rfl))) (fun _ _ _ _ _ => pts_nil) (fun _ _ _ _ _ => (pe_ix ix_SEQ (pe_call G__law_newest (hr.mono (by decide)) (by rfl) Y.g__law_newest Y.F__law_newest.kp Y.b__law_newest .nil pass0 (pa_cons (pv 0) (pa_cons (pv 4) pa_nil))) (pe_un un_NEG pe_int) (fun _ _ => rfl)))) pa_nil)) (by rfl))
      (pss_one (ps_dput (hu_of hr) (pv 0) pe_str (pe_lst pa_nil) (by rfl)))))
    (pss_one (ps_ret (pe_lst (pa_cons pe_non pa_nil))))))))))))
def t__law_deed (K : PySem.W.Frag) (sp__law_drop : PySem.W.Frag → Sp) (sp__law_text : PySem.W.Frag → Sp) : TS :=
    (tSeq (tAsg (tCall (sp__law_drop K) [] E0 (tCons (tVar 0) (tCons (tCB (rLEN K) (tCons (tDGet (tVar 1) (tC (.str "image"))) tNil)) tNil))) (gName 2))
    (Evl.tCut (tIfS (tTest (tOp rGT (tCall (sp__law_drop K) [] E0 (tCons (tVar 0) (tCons (tC (.int 3)) tNil))) (tC (.int 0)))) (tAsg (tOp rFDIV (tVar 2) (tC (.int 3))) (gName 2)) tNext)
    (Evl.tCut (tIfS (tTest (tOp (rEQ K) (tCall (sp__law_drop K) [] E0 (tCons (tVar 0) (tCons (tC (.int 7)) tNil))) (tC (.int 0)))) (tSeq (tAsg (tLst (tCons (tUn rNEG (tC (.int 1))) (tCons (tCB (rLEN K) (tCons (tDGet (tVar 1) (tC (.str "image"))) tNil)) (tCons (tC (.bl true)) (tCons (tC (.bl false)) (tCons (tC .non) (tCons (tC (.str "0")) (tCons (tTup (tCons (tC (.int 0)) tNil)) (tCons (tOp rPOW (tC (.int 10)) (tC (.int 30))) (tCons (tUn rNEG (tCB (rLEN K) (tCons (tDGet (tVar 1) (tC (.str "image"))) tNil))) (tCons (tLst tNil) tNil))))))))))) (gName 3))
      (tAsg (tOp (rIX K) (tVar 3) (tCall (sp__law_drop K) [] E0 (tCons (tVar 0) (tCons (tC (.int 10)) tNil)))) (gName 2))) tNext)
    (tSeq (tAsg (tDGet (tVar 1) (tC (.str "signs"))) (gName 4))
    (tSeq (tAsg (tCall (sp__law_text K) [] E0 (tCons (tVar 0) (tCons (tOp (rIX K) (tLst (tCons (tC (.int 0)) (tCons (tC (.int 1)) (tCons (tC (.int 2)) (tCons (tVar 4) (tCons (tCall (sp__law_drop K) [] E0 (tCons (tVar 0) (tCons (tC (.int 9)) tNil))) tNil)))))) (tCall (sp__law_drop K) [] E0 (tCons (tVar 0) (tCons (tC (.int 5)) tNil)))) tNil))) (gName 5))
    (tSeq (tAsg (tOp (rEQ K) (tCall (sp__law_drop K) [] E0 (tCons (tVar 0) (tCons (tC (.int 6)) tNil))) (tC (.int 0))) (gName 6))
    (Evl.tCut (tIfS (tTru1 K (tVar 6)) (tSeq (tAsg (tLst (tCons (tC .non) (tCons (tC (.int 7)) (tCons (tC (.bl true)) (tCons (tTup (tCons (tC (.str "a")) tNil)) (tCons (tLst (tCons (tC (.str "a")) tNil)) (tCons (tC (.str "a\n")) (tCons (tC (.str "\tb")) (tCons (tOp (rMUL K) (tC (.str "x")) (tOp (rADD K) (tVar 4) (tC (.int 1)))) (tCons (tOp (rMUL K) (tC (.str "x")) (tC (.int 1001))) (tCons (tLst tNil) (tCons (tTup tNil) tNil)))))))))))) (gName 3))
      (tAsg (tOp (rIX K) (tVar 3) (tCall (sp__law_drop K) [] E0 (tCons (tVar 0) (tCons (tC (.int 11)) tNil)))) (gName 5))) tNext)
    (tSeq (tAsg (tCall (sp__law_drop K) [] E0 (tCons (tVar 0) (tCons (tC (.int 9)) tNil))) (gName 7))
    (tSeq (tAsg (tOp (rIX K) (tLst (tCons (tC (.str "write")) (tCons (tC (.str "write by name")) (tCons (tC (.str "write")) (tCons (tC (.str "write")) (tCons (tC (.str "read")) (tCons (tC (.str "read by name")) (tCons (tC (.str "flush")) (tCons (tC (.str "write")) (tCons (tC (.str "read")) tNil)))))))))) (tVar 7)) (gName 8))
    (tRet (tTup (tCons (tVar 8) (tCons (tVar 2) (tCons (tVar 5) (tCons (tVar 6) tNil)))))))))))))))
theorem b__law_deed (Y : Fx K mg) {sp__law_drop : PySem.W.Frag → Sp} {sp__law_text : PySem.W.Frag → Sp} (G__law_drop : FnOk P w K mg base CX0 1 Y.a__law_drop Y.fd__law_drop ["_law_spring_here", "_law_many"] (sp__law_drop K)) (G__law_text : FnOk P w K mg base CX0 2 Y.a__law_text Y.fd__law_text ["_law_spring_here", "_law_size"] (sp__law_text K)) {f : Addr} {cdv : Value} {A : Around} {outer : List Env} {s : Shared} {H : Hp} {E : XK} (hr : Room 2 (A.deeper (envOfC "_law_deed" (defScope s__law_deed) s.heap.objs.size f cdv))) :
    PSs (cxOf CX0 P w K mg base ["_law_spring_here", "_law_model", "_law_index", "_law_odd", "_law_signs", "_law_block", "_law_wrong", "_law_way", "_law_word_here"] "_law_deed" (defScope s__law_deed) f cdv A outer s H E).nox (defBody s__law_deed) (t__law_deed K sp__law_drop sp__law_text) :=
    (pss_cons (ps_set (i := 2) sc__law_deed.nd rfl (Or.inl rfl) (pe_call G__law_drop (hr.mono (by decide)) (by rfl) Y.g__law_drop Y.F__law_drop.kp Y.b__law_drop .nil pass0 (pa_cons (pv 0) (pa_cons (pe_callB call_LEN (by rfl) Y.m_len (by decide +kernel) (pa_cons (pe_dget (hu_of hr) (pv 1) pe_str (fun _ _ => rfl)) pa_nil)) pa_nil))))
    (Evl.pss_cut (ps_if (pt_cmpR op_GT (pe_call G__law_drop (hr.mono (by decide)) (by rfl) Y.g__law_drop Y.F__law_drop.kp Y.b__law_drop .nil pass0 (pa_cons (pv 0) (pa_cons pe_int pa_nil))) pe_int (nomark _)) (pss_one (ps_set (i := 2) sc__law_deed.nd rfl (Or.inl rfl) (pe_op op_FDIV (pv 2) pe_int))) pss_nil)
    (Evl.pss_cut (ps_if (pt_cmpR (op_EQ (hu_64 hr)) (pe_call G__law_drop (hr.mono (by decide)) (by rfl) Y.g__law_drop Y.F__law_drop.kp Y.b__law_drop .nil pass0 (pa_cons (pv 0) (pa_cons pe_int pa_nil))) pe_int (nomark _)) (pss_cons (ps_set (i := 3) sc__law_deed.nd rfl (Or.inl rfl) (pe_lst (pa_cons (pe_un un_NEG pe_int) (pa_cons (pe_callB call_LEN (by rfl) Y.m_len (by decide +kernel) (pa_cons (pe_dget (hu_of hr) (pv 1) pe_str (fun _ _ => rfl)) pa_nil)) (pa_cons pe_bl (pa_cons pe_bl (pa_cons pe_non (pa_cons pe_str (pa_cons (pe_tup (pa_cons pe_int pa_nil)) (pa_cons (pe_op op_POW pe_int pe_int) (pa_cons (pe_un un_NEG (pe_callB call_LEN (by rfl) Y.m_len (by decide +kernel) (pa_cons (pe_dget (hu_of hr) (pv 1) pe_str (fun _ _ => rfl)) pa_nil))) (pa_cons (pe_lst pa_nil) pa_nil))))))))))))
      (pss_one (ps_set (i := 2) sc__law_deed.nd rfl (Or.inl rfl) (pe_ix ix_SEQ (pv 3) (pe_call G__law_drop (hr.mono (by decide)) (by rfl) Y.g__law_drop Y.F__law_drop.kp Y.b__law_drop .nil pass0 (pa_cons (pv 0) (pa_cons pe_int pa_nil))) (fun _ _ => rfl))))) pss_nil)
    (pss_cons (ps_set (i := 4) sc__law_deed.nd rfl (Or.inl rfl) (pe_dget (hu_of hr) (pv 1) pe_str (fun _ _ => rfl)))
    (pss_cons (ps_set (i := 5) sc__law_deed.nd rfl (Or.inl rfl) (pe_call G__law_text (hr.mono (by decide)) (by rfl) Y.g__law_text Y.F__law_text.kp Y.b__law_text .nil pass0 (pa_cons (pv 0) (pa_cons (pe_ix ix_SEQ (pe_lst (pa_cons pe_int (pa_cons pe_int (pa_cons pe_int (pa_cons (pv 4) (pa_cons (pe_call G__law_drop (hr.mono (by decide)) (by rfl) Y.g__law_drop Y.F__law_drop.kp Y.b__law_drop .nil pass0 (pa_cons (pv 0) (pa_cons pe_int pa_nil))) pa_nil)))))) (pe_call G__law_drop (hr.mono (by decide)) (by rfl) Y.g__law_drop Y.F__law_drop.kp Y.b__law_drop .nil pass0 (pa_cons (pv 0) (pa_cons pe_int pa_nil))) (fun _ _ => rfl)) pa_nil))))
    (pss_cons (ps_set (i := 6) sc__law_deed.nd rfl (Or.inl rfl) (pe_cmpR (op_EQ (hu_64 hr)) (pe_call G__law_drop (hr.mono (by decide)) (by rfl) Y.g__law_drop Y.F__law_drop.kp Y.b__law_drop .nil pass0 (pa_cons (pv 0) (pa_cons pe_int pa_nil))) pe_int (nomark _)))
    (Evl.pss_cut (ps_if (pt_tru (pv 6) (by intro _; rfl)) (pss_cons (ps_set (i := 3) sc__law_deed.nd rfl (Or.inl rfl) (pe_lst (pa_cons pe_non (pa_cons pe_int (pa_cons pe_bl (pa_cons (pe_tup (pa_cons pe_str pa_nil)) (pa_cons (pe_lst (pa_cons pe_str pa_nil)) (pa_cons pe_str (pa_cons pe_str (pa_cons (pe_op op_MUL pe_str (pe_op op_ADD (pv 4) pe_int)) (pa_cons (pe_op op_MUL pe_str pe_int) (pa_cons (pe_lst pa_nil) (pa_cons (pe_tup pa_nil) pa_nil)))))))))))))
      (pss_one (ps_set (i := 5) sc__law_deed.nd rfl (Or.inl rfl) (pe_ix ix_SEQ (pv 3) (pe_call G__law_drop (hr.mono (by decide)) (by rfl) Y.g__law_drop Y.F__law_drop.kp Y.b__law_drop .nil pass0 (pa_cons (pv 0) (pa_cons pe_int pa_nil))) (fun _ _ => rfl))))) pss_nil)
    (pss_cons (ps_set (i := 7) sc__law_deed.nd rfl (Or.inl rfl) (pe_call G__law_drop (hr.mono (by decide)) (by rfl) Y.g__law_drop Y.F__law_drop.kp Y.b__law_drop .nil pass0 (pa_cons (pv 0) (pa_cons pe_int pa_nil))))
    (pss_cons (ps_set (i := 8) sc__law_deed.nd rfl (Or.inl rfl) (pe_ix ix_SEQ (pe_lst (pa_cons pe_str (pa_cons pe_str (pa_cons pe_str (pa_cons pe_str (pa_cons pe_str (pa_cons pe_str (pa_cons pe_str (pa_cons pe_str (pa_cons pe_str pa_nil)))))))))) (pv 7) (fun _ _ => rfl)))
    (pss_one (ps_ret (pe_tup (pa_cons (pv 8) (pa_cons (pv 2) (pa_cons (pv 5) (pa_cons (pv 6) pa_nil))))))))))))))))
def t__law_stands (K : PySem.W.Frag) (sp__law_alike : PySem.W.Frag → Sp) : TS :=
    (tSeq (tAsg (tLst (tCons (tFld K (tVar 0) "image") (tCons (tFld K (tVar 0) "pending") (tCons (tFld K (tVar 0) "signs") (tCons (tFld K (tVar 0) "steps") (tCons (tFld K (tVar 0) "out") tNil)))))) (gName 2))
    (tSeq (tAsg (tLst (tCons (tDGet (tVar 1) (tC (.str "image"))) (tCons (tCB (rTUPLE K) (tCons (tDGet (tVar 1) (tC (.str "pending"))) tNil)) (tCons (tDGet (tVar 1) (tC (.str "signs"))) (tCons (tDGet (tVar 1) (tC (.str "steps"))) (tCons (tDGet (tVar 1) (tC (.str "out"))) tNil)))))) (gName 3))
    (tRet (tCall (sp__law_alike K) [] E0 (tCons (tVar 2) (tCons (tVar 3) tNil))))))
theorem b__law_stands (Y : Fx K mg) {sp__law_alike : PySem.W.Frag → Sp} (G__law_alike : FnOk P w K mg base CX0 5 Y.a__law_alike Y.fd__law_alike ["_law_found", "_law_due_here"] (sp__law_alike K)) {f : Addr} {cdv : Value} {A : Around} {outer : List Env} {s : Shared} {H : Hp} {E : XK} (hr : Room 5 (A.deeper (envOfC "_law_stands" (defScope s__law_stands) s.heap.objs.size f cdv))) :
    PSs (cxOf CX0 P w K mg base ["_law_disk", "_law_model", "_law_told_here", "_law_due_here"] "_law_stands" (defScope s__law_stands) f cdv A outer s H E).nox (defBody s__law_stands) (t__law_stands K sp__law_alike) :=
    (pss_cons (ps_set (i := 2) sc__law_stands.nd rfl (Or.inl rfl) (pe_lst (pa_cons (pe_fld (pv 0) rfl) (pa_cons (pe_fld (pv 0) rfl) (pa_cons (pe_fld (pv 0) rfl) (pa_cons (pe_fld (pv 0) rfl) (pa_cons (pe_fld (pv 0) rfl) pa_nil)))))))
    (pss_cons (ps_set (i := 3) sc__law_stands.nd rfl (Or.inl rfl) (pe_lst (pa_cons (pe_dget (hu_of hr) (pv 1) pe_str (fun _ _ => rfl)) (pa_cons (pe_callTy call_TUPLE (by rfl) Y.m_tuple (by decide +kernel) (pa_cons (pe_dget (hu_of hr) (pv 1) pe_str (fun _ _ => rfl)) pa_nil)) (pa_cons (pe_dget (hu_of hr) (pv 1) pe_str (fun _ _ => rfl)) (pa_cons (pe_dget (hu_of hr) (pv 1) pe_str (fun _ _ => rfl)) (pa_cons (pe_dget (hu_of hr) (pv 1) pe_str (fun _ _ => rfl)) pa_nil)))))))
    (pss_one (ps_ret (pe_call G__law_alike (hr.mono (by decide)) (by rfl) Y.g__law_alike Y.F__law_alike.kp Y.b__law_alike .nil pass0 (pa_cons (pv 2) (pa_cons (pv 3) pa_nil)))))))
def t__law_behind_right (K : PySem.W.Frag) {mg : Str → Option Value} (Y : Fx K mg) (sp_Disk_behind : PySem.W.Frag → Sp) (sp__law_alike : PySem.W.Frag → Sp) (sp__law_drop : PySem.W.Frag → Sp) (sp__law_newest : PySem.W.Frag → Sp) : TS :=
    (tSeq (tPar 3 4 (tCons (tLst tNil) (tCons (tLst tNil) tNil)))
    (tSeq (tFor (iRng1 (tCons (tCB (rLEN K) (tCons (tDGet (tVar 2) (tC (.str "image"))) tNil)) tNil)) (gName 5) (tSeq (tAsg (tCall (sp__law_newest K) [] E0 (tCons (tVar 2) (tCons (tVar 5) tNil))) (gName 6))
      (tSeq (tDrop (tBM K "list" rAppend (tVar 3) (tCons (tCall (sp__law_drop K) [] E0 (tCons (tVar 0) (tCons (tCB (rLEN K) (tCons (tVar 6) tNil)) tNil))) tNil)))
      (tDrop (tBM K "list" rAppend (tVar 4) (tCons (tOp (rIX K) (tVar 6) (tOp (rIX K) (tVar 3) (tUn rNEG (tC (.int 1))))) tNil))))))
    (tSeq (tAsg (tLst (tCons (tMeth Y.C_Disk "behind" (sp_Disk_behind K) [] E0 (tVar 1) (tCons (tCB (rTUPLE K) (tCons (tVar 3) tNil)) tNil)) (tCons (tMethK Y.C_Disk "behind" (sp_Disk_behind K) gV_kb_Disk_behind_0 (fun _ => E0) (tVar 1) (tCons (tOp (rRepT K) (tTup (tCons (tC (.int 0)) tNil)) (tCB (rLEN K) (tCons (tVar 3) tNil))) tNil)) tNil))) (gName 7))
    (tRet (tCall (sp__law_alike K) [] E0 (tCons (tVar 7) (tCons (tLst (tCons (tCB (rTUPLE K) (tCons (tVar 4) tNil)) (tCons (tDGet (tVar 2) (tC (.str "image"))) tNil))) tNil)))))))
theorem b__law_behind_right (Y : Fx K mg) {sp_Disk_behind : PySem.W.Frag → Sp} {sp__law_alike : PySem.W.Frag → Sp} {sp__law_drop : PySem.W.Frag → Sp} {sp__law_newest : PySem.W.Frag → Sp} (G_Disk_behind : FnOk P w K mg base CX0 2 Y.a_Disk_behind Y.fd_Disk_behind ["self", "choice"] (sp_Disk_behind K)) (G__law_alike : FnOk P w K mg base CX0 5 Y.a__law_alike Y.fd__law_alike ["_law_found", "_law_due_here"] (sp__law_alike K)) (G__law_drop : FnOk P w K mg base CX0 1 Y.a__law_drop Y.fd__law_drop ["_law_spring_here", "_law_many"] (sp__law_drop K)) (G__law_newest : FnOk P w K mg base CX0 1 Y.a__law_newest Y.fd__law_newest ["_law_model", "_law_index"] (sp__law_newest K)) {f : Addr} {cdv : Value} {A : Around} {outer : List Env} {s : Shared} {H : Hp} {E : XK} (hr : Room 5 (A.deeper (envOfC "_law_behind_right" (defScope s__law_behind_right) s.heap.objs.size f cdv))) :
    PSs (cxOf CX0 P w K mg base ["_law_spring_here", "_law_disk", "_law_model", "_law_choice", "_law_image", "_law_index", "_law_ways", "_law_told_here"] "_law_behind_right" (defScope s__law_behind_right) f cdv A outer s H E).nox (defBody s__law_behind_right) (t__law_behind_right K Y sp_Disk_behind sp__law_alike sp__law_drop sp__law_newest) :=
    (pss_cons (ps_par (i := 3) (j := 4) (by rfl) sc__law_behind_right.nd rfl rfl (by decide) rfl rfl (pa_cons (pe_lst pa_nil) (pa_cons (pe_lst pa_nil) pa_nil)) (by rfl))
    (pss_cons (ps_for PassesOwn.never rfl (pi_range1 (by rfl) Y.m_range (pa_cons (pe_callB call_LEN (by rfl) Y.m_len (by decide +kernel) (pa_cons (pe_dget (hu_of hr) (pv 2) pe_str (fun _ _ => rfl)) pa_nil)) pa_nil)) (pg_name (i := 5) sc__law_behind_right.nd rfl (Or.inl rfl)) (pss_cons (ps_set (i := 6) sc__law_behind_right.nd rfl (Or.inl rfl) (pe_call G__law_newest (hr.mono (by decide)) (by rfl) Y.g__law_newest Y.F__law_newest.kp Y.b__law_newest .nil pass0 (pa_cons (pv 2) (pa_cons (pv 5) pa_nil))))
      (pss_cons (ps_expr (pe_bm PySem.F.plainAttrs_list PySem.F.slot_list_append PySem.F.type_list_append mt_append (pv 3) (pa_cons (pe_call G__law_drop (hr.mono (by decide)) (by rfl) Y.g__law_drop Y.F__law_drop.kp Y.b__law_drop .nil pass0 (pa_cons (pv 0) (pa_cons (pe_callB call_LEN (by rfl) Y.m_len (by decide +kernel) (pa_cons (pv 6) pa_nil)) pa_nil))) pa_nil)))
      (pss_one (ps_expr (pe_bm PySem.F.plainAttrs_list PySem.F.slot_list_append PySem.F.type_list_append mt_append (pv 4) (pa_cons (pe_ix ix_SEQ (pv 6) (pe_ix ix_SEQ (pv 3) (pe_un un_NEG pe_int) (fun _ _ => rfl)) (fun _ _ => rfl)) pa_nil)))))))
    (pss_cons (ps_set (i := 7) sc__law_behind_right.nd rfl (Or.inl rfl) (pe_lst (pa_cons (pe_meth (pv 1) Y.c_Disk Y.mm_Disk_behind G_Disk_behind (hr.mono (by decide)) Y.b_Disk_behind .nil pass0 (pa_cons (pe_callTy call_TUPLE (by rfl) Y.m_tuple (by decide +kernel) (pa_cons (pv 3) pa_nil)) pa_nil)) (pa_cons (pe_methK (pv 1) Y.c_Disk Y.mm_Disk_behind G_Disk_behind (hr.mono (by decide)) Y.kb_Disk_behind_0 (passAt1 pass0) (pk_cons (pe_op op_repT (pe_tup (pa_cons pe_int pa_nil)) (pe_callB call_LEN (by rfl) Y.m_len (by decide +kernel) (pa_cons (pv 3) pa_nil))) pk_nil)) pa_nil))))
    (pss_one (ps_ret (pe_call G__law_alike (hr.mono (by decide)) (by rfl) Y.g__law_alike Y.F__law_alike.kp Y.b__law_alike .nil pass0 (pa_cons (pv 7) (pa_cons (pe_lst (pa_cons (pe_callTy call_TUPLE (by rfl) Y.m_tuple (by decide +kernel) (pa_cons (pv 4) pa_nil)) (pa_cons (pe_dget (hu_of hr) (pv 2) pe_str (fun _ _ => rfl)) pa_nil))) pa_nil))))))))
def t_law (K : PySem.W.Frag) {mg : Str → Option Value} (Y : Fx K mg) (sp_Disk_init : PySem.W.Frag → Sp) (sp__law_alike : PySem.W.Frag → Sp) (sp__law_behind_right : PySem.W.Frag → Sp) (sp__law_deed : PySem.W.Frag → Sp) (sp__law_drop : PySem.W.Frag → Sp) (sp__law_due : PySem.W.Frag → Sp) (sp__law_spring : PySem.W.Frag → Sp) (sp__law_stands : PySem.W.Frag → Sp) (sp__law_text : PySem.W.Frag → Sp) (sp__law_told : PySem.W.Frag → Sp) : TS :=
    (tSeq (tAsg (tCall (sp__law_spring K) [] E0 (tCons (tVar 0) tNil)) (gName 1))
    (tSeq (tAsg (tOp (rIX K) (tLst (tCons (tC (.int 100)) (tCons (tOp (rADD K) (tC (.int 100)) (tCall (sp__law_drop K) [] E0 (tCons (tVar 1) (tCons (tC (.int 901)) tNil)))) tNil))) (tCB rINT (tCons (tOp (rEQ K) (tCall (sp__law_drop K) [] E0 (tCons (tVar 1) (tCons (tC (.int 5)) tNil))) (tC (.int 0))) tNil))) (gName 2))
    (tSeq (tAsg (tCB (rTUPLE K) (tCons (tLc (iRng1 (tCons (tOp (rADD K) (tC (.int 4)) (tCall (sp__law_drop K) [] E0 (tCons (tVar 1) (tCons (tC (.int 9)) tNil)))) tNil)) (gName 4) tYes (tCall (sp__law_text K) [] E0 (tCons (tVar 1) (tCons (tCall (sp__law_drop K) [] E0 (tCons (tVar 1) (tCons (tC (.int 4)) tNil))) tNil))) [4]) tNil)) (gName 3))
    (tSeq (tPar 5 6 (tCons (tLst tNil) (tCons (tLst tNil) tNil)))
    (tSeq (tFor (iRng1 (tCons (tC (.int 2)) tNil)) (gName 7) (tSeq (tAsg (tOp (rIX K) (tLst (tCons (tC .non) (tCons (tCall (sp__law_drop K) [] E0 (tCons (tVar 1) (tCons (tC (.int 13)) tNil))) tNil))) (tCall (sp__law_drop K) [] E0 (tCons (tVar 1) (tCons (tC (.int 2)) tNil)))) (gName 8))
      (tSeq (tDrop (tBM K "list" rAppend (tVar 5) (tCons (tMake Y.C_Disk (sp_Disk_init K) [] E0 (tCons (tVar 3) (tCons (tVar 2) (tCons (tVar 8) tNil)))) tNil)))
      (tDrop (tBM K "list" rAppend (tVar 6) (tCons (tDisp [((tC (.str "image")), (tVar 3)), ((tC (.str "pending")), (tLst tNil)), ((tC (.str "signs")), (tVar 2)), ((tC (.str "steps")), (tVar 8)), ((tC (.str "out")), (tC (.bl false)))]) tNil))))))
    (tSeq (tFor (iRng1 (tCons (tOp (rADD K) (tC (.int 6)) (tCall (sp__law_drop K) [] E0 (tCons (tVar 1) (tCons (tC (.int 35)) tNil)))) tNil)) (gName 7) (tSeq (tAsg (tCall (sp__law_drop K) [] E0 (tCons (tVar 1) (tCons (tC (.int 2)) tNil))) (gName 9))
      (tSeq (tAsg (tCall (sp__law_deed K) [] E0 (tCons (tVar 1) (tCons (tOp (rIX K) (tVar 6) (tVar 9)) tNil))) (gName 10))
      (tSeq (tAsg (tLst (tCons (tFld K (tOp (rIX K) (tVar 5) (tVar 9)) "image") (tCons (tFld K (tOp (rIX K) (tVar 5) (tVar 9)) "pending") tNil))) (gName 11))
      (tSeq (tAsg (tLst (tCons (tDGet (tOp (rIX K) (tVar 6) (tVar 9)) (tC (.str "image"))) (tCons (tCB (rTUPLE K) (tCons (tDGet (tOp (rIX K) (tVar 6) (tVar 9)) (tC (.str "pending"))) tNil)) tNil))) (gName 12))
      (tSeq (tAsg (tCall (sp__law_due K) [] E0 (tCons (tOp (rIX K) (tVar 6) (tVar 9)) (tCons (tVar 10) tNil))) (gName 13))
      (tSeq (tIfS (tOr (tNot (tTru1 K (tCall (sp__law_alike K) [] E0 (tCons (tCall (sp__law_told K) [] E0 (tCons (tOp (rIX K) (tVar 5) (tVar 9)) (tCons (tVar 10) tNil))) (tCons (tVar 13) tNil))))) (tNot (tTru1 K (tCall (sp__law_alike K) [] E0 (tCons (tVar 11) (tCons (tVar 12) tNil)))))) (tRet (tC (.bl false))) tNext)
      (tSeq (tIfS (tOr (tNot (tTru1 K (tCall (sp__law_stands K) [] E0 (tCons (tOp (rIX K) (tVar 5) (tC (.int 0))) (tCons (tOp (rIX K) (tVar 6) (tC (.int 0))) tNil))))) (tNot (tTru1 K (tCall (sp__law_stands K) [] E0 (tCons (tOp (rIX K) (tVar 5) (tC (.int 1))) (tCons (tOp (rIX K) (tVar 6) (tC (.int 1))) tNil)))))) (tRet (tC (.bl false))) tNext)
      (tIfS (tAnd (tTest (tOp (rEQ K) (tCall (sp__law_drop K) [] E0 (tCons (tVar 1) (tCons (tC (.int 5)) tNil))) (tC (.int 0)))) (tNot (tTru1 K (tCall (sp__law_behind_right K) [] E0 (tCons (tVar 1) (tCons (tOp (rIX K) (tVar 5) (tVar 9)) (tCons (tOp (rIX K) (tVar 6) (tVar 9)) tNil))))))) (tRet (tC (.bl false))) tNext)))))))))
    (tRet (tAndV (tCall (sp__law_behind_right K) [] E0 (tCons (tVar 1) (tCons (tOp (rIX K) (tVar 5) (tC (.int 0))) (tCons (tOp (rIX K) (tVar 6) (tC (.int 0))) tNil)))) (tCall (sp__law_behind_right K) [] E0 (tCons (tVar 1) (tCons (tOp (rIX K) (tVar 5) (tC (.int 1))) (tCons (tOp (rIX K) (tVar 6) (tC (.int 1))) tNil))))))))))))
theorem b_law (Y : Fx K mg) {sp_Disk_init : PySem.W.Frag → Sp} {sp__law_alike : PySem.W.Frag → Sp} {sp__law_behind_right : PySem.W.Frag → Sp} {sp__law_deed : PySem.W.Frag → Sp} {sp__law_drop : PySem.W.Frag → Sp} {sp__law_due : PySem.W.Frag → Sp} {sp__law_spring : PySem.W.Frag → Sp} {sp__law_stands : PySem.W.Frag → Sp} {sp__law_text : PySem.W.Frag → Sp} {sp__law_told : PySem.W.Frag → Sp} (G_Disk_init : FnOk P w K mg base CX0 4 Y.a_Disk_init Y.fd_Disk_init ["self", "image", "signs", "steps"] (sp_Disk_init K)) (G__law_alike : FnOk P w K mg base CX0 5 Y.a__law_alike Y.fd__law_alike ["_law_found", "_law_due_here"] (sp__law_alike K)) (G__law_behind_right : FnOk P w K mg base CX0 6 Y.a__law_behind_right Y.fd__law_behind_right ["_law_spring_here", "_law_disk", "_law_model"] (sp__law_behind_right K)) (G__law_deed : FnOk P w K mg base CX0 3 Y.a__law_deed Y.fd__law_deed ["_law_spring_here", "_law_model"] (sp__law_deed K)) (G__law_drop : FnOk P w K mg base CX0 1 Y.a__law_drop Y.fd__law_drop ["_law_spring_here", "_law_many"] (sp__law_drop K)) (G__law_due : FnOk P w K mg base CX0 2 Y.a__law_due Y.fd__law_due ["_law_model", "_law_deed_here"] (sp__law_due K)) (G__law_spring : FnOk P w K mg base CX0 1 Y.a__law_spring Y.fd__law_spring ["_law_script"] (sp__law_spring K)) (G__law_stands : FnOk P w K mg base CX0 6 Y.a__law_stands Y.fd__law_stands ["_law_disk", "_law_model"] (sp__law_stands K)) (G__law_text : FnOk P w K mg base CX0 2 Y.a__law_text Y.fd__law_text ["_law_spring_here", "_law_size"] (sp__law_text K)) (G__law_told : FnOk P w K mg base CX0 5 Y.a__law_told Y.fd__law_told ["_law_disk", "_law_deed_here"] (sp__law_told K)) {f : Addr} {cdv : Value} {A : Around} {outer : List Env} {s : Shared} {H : Hp} {E : XK} (hr : Room 6 (A.deeper (envOfC "law" (defScope s_law) s.heap.objs.size f cdv))) :
    PSs (cxOf CX0 P w K mg base ["_law_script", "_law_spring_here", "_law_signs", "_law_image", "_law_k", "_law_disks", "_law_models", "_law_turn", "_law_steps", "_law_at", "_law_deed_here", "_law_held", "_law_stood", "_law_due_here"] "law" (defScope s_law) f cdv A outer s H E).nox (defBody s_law) (t_law K Y sp_Disk_init sp__law_alike sp__law_behind_right sp__law_deed sp__law_drop sp__law_due sp__law_spring sp__law_stands sp__law_text sp__law_told) :=
    (pss_cons (ps_set (i := 1) sc_law.nd rfl (Or.inr rfl) (pe_call G__law_spring (hr.mono (by decide)) (by rfl) Y.g__law_spring Y.F__law_spring.kp Y.b__law_spring .nil pass0 (pa_cons (pv 0) pa_nil)))
    (pss_cons (ps_set (i := 2) sc_law.nd rfl (Or.inl rfl) (pe_ix ix_SEQ (pe_lst (pa_cons pe_int (pa_cons (pe_op op_ADD pe_int (pe_call G__law_drop (hr.mono (by decide)) (by rfl) Y.g__law_drop Y.F__law_drop.kp Y.b__law_drop .nil pass0 (pa_cons (pv 1) (pa_cons pe_int pa_nil)))) pa_nil))) (pe_callTy call_INT (by rfl) Y.m_int (by decide +kernel) (pa_cons (pe_cmpR (op_EQ (hu_64 hr)) (pe_call G__law_drop (hr.mono (by decide)) (by rfl) Y.g__law_drop Y.F__law_drop.kp Y.b__law_drop .nil pass0 (pa_cons (pv 1) (pa_cons pe_int pa_nil))) pe_int (nomark _)) pa_nil)) (fun _ _ => rfl)))
    (pss_cons (ps_set (i := 3) sc_law.nd rfl (Or.inl rfl) (pe_callTy call_TUPLE (by rfl) Y.m_tuple (by decide +kernel) (pa_cons (pe_lc (own := [("_law_k", 4)]) (by rfl) sc_law.nd (pi_range1 (by rfl) Y.m_range (pa_cons (pe_op op_ADD pe_int (pe_call G__law_drop (hr.mono (by decide)) (by rfl) Y.g__law_drop Y.F__law_drop.kp Y.b__law_drop .nil pass0 (pa_cons (pv 1) (pa_cons pe_int pa_nil)))) pa_nil)) (blkOk_by (own := [("_law_k", 4)]) (N := ["_law_script", "_law_spring_here", "_law_signs", "_law_image", "_law_k", "_law_disks", "_law_models", "_law_turn", "_law_steps", "_law_at", "_law_deed_here", "_law_held", "_law_stood", "_law_due_here"]) (sc := defScope s_law) (by decide +kernel)) (fun _ _ _ _ _ => (pg_name (i := 4) sc_law.nd rfl (Or.inl rfl))) (fun _ _ _ _ _ => pts_nil) (fun _ _ _ _ _ => (pe_call G__law_text (hr.mono (by decide)) (by rfl) Y.g__law_text Y.F__law_text.kp Y.b__law_text .nil pass0 (pa_cons (pv 1) (pa_cons (pe_call G__law_drop (hr.mono (by decide)) (by rfl) Y.g__law_drop Y.F__law_drop.kp Y.b__law_drop .nil pass0 (pa_cons (pv 1) (pa_cons pe_int pa_nil))) pa_nil))))) pa_nil)))
    (pss_cons (ps_par (i := 5) (j := 6) (by rfl) sc_law.nd rfl rfl (by decide) rfl rfl (pa_cons (pe_lst pa_nil) (pa_cons (pe_lst pa_nil) pa_nil)) (by rfl))
    (pss_cons (ps_for PassesOwn.never rfl (pi_range1 (by rfl) Y.m_range (pa_cons pe_int pa_nil)) (pg_name (i := 7) sc_law.nd rfl (Or.inl rfl)) (pss_cons (ps_set (i := 8) sc_law.nd rfl (Or.inl rfl) (pe_ix ix_SEQ (pe_lst (pa_cons pe_non (pa_cons (pe_call G__law_drop (hr.mono (by decide)) (by rfl) Y.g__law_drop Y.F__law_drop.kp Y.b__law_drop .nil pass0 (pa_cons (pv 1) (pa_cons pe_int pa_nil))) pa_nil))) (pe_call G__law_drop (hr.mono (by decide)) (by rfl) Y.g__law_drop Y.F__law_drop.kp Y.b__law_drop .nil pass0 (pa_cons (pv 1) (pa_cons pe_int pa_nil))) (fun _ _ => rfl)))
      (pss_cons (ps_expr (pe_bm PySem.F.plainAttrs_list PySem.F.slot_list_append PySem.F.type_list_append mt_append (pv 5) (pa_cons (pe_make Y.mk_Disk G_Disk_init (hr.mono (by decide)) (by rfl) Y.gc_Disk Y.b_Disk_init .nil pass0 (pa_cons (pv 3) (pa_cons (pv 2) (pa_cons (pv 8) pa_nil)))) pa_nil)))
      (pss_one (ps_expr (pe_bm PySem.F.plainAttrs_list PySem.F.slot_list_append PySem.F.type_list_append mt_append (pv 6) (pa_cons (pe_disp (pps_cons pe_str (pv 3) (pps_cons pe_str (pe_lst pa_nil) (pps_cons pe_str (pv 2) (pps_cons pe_str (pv 8) (pps_cons pe_str pe_bl pps_nil))))) (by rfl) (by rfl) (fun z => by cases z) (by decide)) pa_nil)))))))
    (pss_cons (ps_for PassesOwn.never rfl (pi_range1 (by rfl) Y.m_range (pa_cons (pe_op op_ADD pe_int (pe_call G__law_drop (hr.mono (by decide)) (by rfl) Y.g__law_drop Y.F__law_drop.kp Y.b__law_drop .nil pass0 (pa_cons (pv 1) (pa_cons pe_int pa_nil)))) pa_nil)) (pg_name (i := 7) sc_law.nd rfl (Or.inl rfl)) (pss_cons (ps_set (i := 9) sc_law.nd rfl (Or.inl rfl) (pe_call G__law_drop (hr.mono (by decide)) (by rfl) Y.g__law_drop Y.F__law_drop.kp Y.b__law_drop .nil pass0 (pa_cons (pv 1) (pa_cons pe_int pa_nil))))
      (pss_cons (ps_set (i := 10) sc_law.nd rfl (Or.inl rfl) (pe_call G__law_deed (hr.mono (by decide)) (by rfl) Y.g__law_deed Y.F__law_deed.kp Y.b__law_deed .nil pass0 (pa_cons (pv 1) (pa_cons (pe_ix ix_SEQ (pv 6) (pv 9) (fun _ _ => rfl)) pa_nil))))
      (pss_cons (ps_set (i := 11) sc_law.nd rfl (Or.inl rfl) (pe_lst (pa_cons (pe_fld (pe_ix ix_SEQ (pv 5) (pv 9) (fun _ _ => rfl)) rfl) (pa_cons (pe_fld (pe_ix ix_SEQ (pv 5) (pv 9) (fun _ _ => rfl)) rfl) pa_nil))))
      (pss_cons (ps_set (i := 12) sc_law.nd rfl (Or.inl rfl) (pe_lst (pa_cons (pe_dget (hu_of hr) (pe_ix ix_SEQ (pv 6) (pv 9) (fun _ _ => rfl)) pe_str (fun _ _ => rfl)) (pa_cons (pe_callTy call_TUPLE (by rfl) Y.m_tuple (by decide +kernel) (pa_cons (pe_dget (hu_of hr) (pe_ix ix_SEQ (pv 6) (pv 9) (fun _ _ => rfl)) pe_str (fun _ _ => rfl)) pa_nil)) pa_nil))))
      (pss_cons (ps_set (i := 13) sc_law.nd rfl (Or.inl rfl) (pe_call G__law_due (hr.mono (by decide)) (by rfl) Y.g__law_due Y.F__law_due.kp Y.b__law_due .nil pass0 (pa_cons (pe_ix ix_SEQ (pv 6) (pv 9) (fun _ _ => rfl)) (pa_cons (pv 10) pa_nil))))
      (pss_cons (ps_if (PW.pt (pw_or (pt_not (pt_tru (pe_call G__law_alike (hr.mono (by decide)) (by rfl) Y.g__law_alike Y.F__law_alike.kp Y.b__law_alike .nil pass0 (pa_cons (pe_call G__law_told (hr.mono (by decide)) (by rfl) Y.g__law_told Y.F__law_told.kp Y.b__law_told .nil pass0 (pa_cons (pe_ix ix_SEQ (pv 5) (pv 9) (fun _ _ => rfl)) (pa_cons (pv 10) pa_nil))) (pa_cons (pv 13) pa_nil))) (by intro _; rfl))) (pw_or1 (pt_not (pt_tru (pe_call G__law_alike (hr.mono (by decide)) (by rfl) Y.g__law_alike Y.F__law_alike.kp Y.b__law_alike .nil pass0 (pa_cons (pv 11) (pa_cons (pv 12) pa_nil))) (by intro _; rfl)))))) (pss_one (ps_ret pe_bl)) pss_nil)
      (pss_cons (ps_if (PW.pt (pw_or (pt_not (pt_tru (pe_call G__law_stands (hr.mono (by decide)) (by rfl) Y.g__law_stands Y.F__law_stands.kp Y.b__law_stands .nil pass0 (pa_cons (pe_ix ix_SEQ (pv 5) pe_int (fun _ _ => rfl)) (pa_cons (pe_ix ix_SEQ (pv 6) pe_int (fun _ _ => rfl)) pa_nil))) (by intro _; rfl))) (pw_or1 (pt_not (pt_tru (pe_call G__law_stands (hr.mono (by decide)) (by rfl) Y.g__law_stands Y.F__law_stands.kp Y.b__law_stands .nil pass0 (pa_cons (pe_ix ix_SEQ (pv 5) pe_int (fun _ _ => rfl)) (pa_cons (pe_ix ix_SEQ (pv 6) pe_int (fun _ _ => rfl)) pa_nil))) (by intro _; rfl)))))) (pss_one (ps_ret pe_bl)) pss_nil)
      (pss_one (ps_if (PW.pt (pw_and (pt_cmpR (op_EQ (hu_64 hr)) (pe_call G__law_drop (hr.mono (by decide)) (by rfl) Y.g__law_drop Y.F__law_drop.kp Y.b__law_drop .nil pass0 (pa_cons (pv 1) (pa_cons pe_int pa_nil))) pe_int (nomark _)) (pw_and1 (pt_not (pt_tru (pe_call G__law_behind_right (hr.mono (by decide)) (by rfl) Y.g__law_behind_right Y.F__law_behind_right.kp Y.b__law_behind_right .nil pass0 (pa_cons (pv 1) (pa_cons (pe_ix ix_SEQ (pv 5) (pv 9) (fun _ _ => rfl)) (pa_cons (pe_ix ix_SEQ (pv 6) (pv 9) (fun _ _ => rfl)) pa_nil)))) (by intro _; rfl)))))) (pss_one (ps_ret pe_bl)) pss_nil))))))))))
    (pss_one (ps_ret (pe_and (pe_call G__law_behind_right (hr.mono (by decide)) (by rfl) Y.g__law_behind_right Y.F__law_behind_right.kp Y.b__law_behind_right .nil pass0 (pa_cons (pv 1) (pa_cons (pe_ix ix_SEQ (pv 5) pe_int (fun _ _ => rfl)) (pa_cons (pe_ix ix_SEQ (pv 6) pe_int (fun _ _ => rfl)) pa_nil)))) (pe_one (pe_call G__law_behind_right (hr.mono (by decide)) (by rfl) Y.g__law_behind_right Y.F__law_behind_right.kp Y.b__law_behind_right .nil pass0 (pa_cons (pv 1) (pa_cons (pe_ix ix_SEQ (pv 5) pe_int (fun _ _ => rfl)) (pa_cons (pe_ix ix_SEQ (pv 6) pe_int (fun _ _ => rfl)) pa_nil))))))))))))))
def t_Disk_init (K : PySem.W.Frag) (sp_check_from : PySem.W.Frag → Sp) (sp_check_image : PySem.W.Frag → Sp) (sp_check_signs : PySem.W.Frag → Sp) : TS :=
    (tSeq (tDrop (tCall (sp_check_signs K) [] E0 (tCons (tVar 2) tNil)))
    (tSeq (tDrop (tCall (sp_check_image K) [] E0 (tCons (tVar 1) (tCons (tVar 2) tNil))))
    (tSeq (tIfS (tTest (tOp (rISN K) (tVar 3) (tC .non))) (tDrop (tCall (sp_check_from K) [] E0 (tCons (tVar 3) (tCons (tC (.int 0)) tNil)))) tNext)
    (tSeq (sFld K (tVar 0) (tVar 1) "image")
    (tSeq (sFld K (tVar 0) (tVar 2) "signs")
    (tSeq (sFld K (tVar 0) (tTup tNil) "pending")
    (tSeq (sFld K (tVar 0) (tVar 3) "steps")
    (sFld K (tVar 0) (tC (.bl false)) "out"))))))))
theorem b_Disk_init (Y : Fx K mg) {sp_check_from : PySem.W.Frag → Sp} {sp_check_image : PySem.W.Frag → Sp} {sp_check_signs : PySem.W.Frag → Sp} (G_check_from : FnOk P w K mg base CX0 1 Y.a_check_from Y.fd_check_from ["value", "low"] (sp_check_from K)) (G_check_image : FnOk P w K mg base CX0 3 Y.a_check_image Y.fd_check_image ["image", "signs"] (sp_check_image K)) (G_check_signs : FnOk P w K mg base CX0 2 Y.a_check_signs Y.fd_check_signs ["signs"] (sp_check_signs K)) {f : Addr} {cdv : Value} {A : Around} {outer : List Env} {s : Shared} {H : Hp} {E : XK} (hr : Room 3 (A.deeper (envOfC "Disk.__init__" (defScope s_Disk_init) s.heap.objs.size f cdv))) :
    PSs (cxOf CX0 P w K mg base ["self", "image", "signs", "steps"] "Disk.__init__" (defScope s_Disk_init) f cdv A outer s H E) (defBody s_Disk_init) (t_Disk_init K sp_check_from sp_check_image sp_check_signs) :=
    (pss_cons (ps_expr (pe_call G_check_signs (hr.mono (by decide)) (by rfl) Y.g_check_signs Y.F_check_signs.kp Y.b_check_signs .nil pass0 (pa_cons (pv 2) pa_nil)))
    (pss_cons (ps_expr (pe_call G_check_image (hr.mono (by decide)) (by rfl) Y.g_check_image Y.F_check_image.kp Y.b_check_image .nil pass0 (pa_cons (pv 1) (pa_cons (pv 2) pa_nil))))
    (pss_cons (ps_if (pt_cmpR op_ISN (pv 3) pe_non (nomark _)) (pss_one (ps_expr (pe_call G_check_from (hr.mono (by decide)) (by rfl) Y.g_check_from Y.F_check_from.kp Y.b_check_from .nil pass0 (pa_cons (pv 3) (pa_cons pe_int pa_nil))))) pss_nil)
    (pss_cons (ps_fld (pv 0) (pv 1) rfl)
    (pss_cons (ps_fld (pv 0) (pv 2) rfl)
    (pss_cons (ps_fld (pv 0) (pe_tup pa_nil) rfl)
    (pss_cons (ps_fld (pv 0) (pv 3) rfl)
    (pss_one (ps_fld (pv 0) pe_bl rfl)))))))))
def t_Disk_read (K : PySem.W.Frag) {mg : Str → Option Value} (Y : Fx K mg) (E : XK) (sp_Disk_need_power : PySem.W.Frag → Sp) (sp_check_index : PySem.W.Frag → Sp) : TS :=
    (tSeq (tDrop (tCall (sp_check_index K) [] E (tCons (tVar 1) (tCons (tCB (rLEN K) (tCons (tFld K (tVar 0) "image") tNil)) tNil))))
    (tSeq (tDrop (tMeth Y.C_Disk "need_power" (sp_Disk_need_power K) [] E (tVar 0) tNil))
    (tSeq (tFor (RT.iRevA K (tFld K (tVar 0) "pending")) (gTup K 2 (gCons (gName 2) (gCons (gName 3) gNil))) (tIfS (tTest (tOp (rEQ K) (tVar 2) (tVar 1))) (tRet (tVar 3)) tNext))
    (tRet (tOp (rIX K) (tFld K (tVar 0) "image") (tVar 1))))))
theorem b_Disk_read (Y : Fx K mg) {sp_Disk_need_power : PySem.W.Frag → Sp} {sp_check_index : PySem.W.Frag → Sp} (G_Disk_need_power : FnOk P w K mg base (L2.CX P w) 1 Y.a_Disk_need_power Y.fd_Disk_need_power ["self"] (sp_Disk_need_power K)) (G_check_index : FnOk P w K mg base (L2.CX P w) 2 Y.a_check_index Y.fd_check_index ["index", "many"] (sp_check_index K)) {f : Addr} {cdv : Value} {A : Around} {outer : List Env} {s : Shared} {H : Hp} {E : XK} (hr : Room 2 (A.deeper (envOfC "Disk.read" (defScope s_Disk_read) s.heap.objs.size f cdv))) :
    PSs (cxOf (L2.CX P w) P w K mg base ["self", "index", "place", "block"] "Disk.read" (defScope s_Disk_read) f cdv A outer s H E) (defBody s_Disk_read) (t_Disk_read K Y E sp_Disk_need_power sp_check_index) :=
    (pss_cons (ps_expr (pe_call G_check_index (hr.mono (by decide)) (by rfl) Y.g_check_index Y.F_check_index.kp Y.b_check_index .nil (passT (takes_of rfl rfl rfl rfl)) (pa_cons (pv 1) (pa_cons (pe_callB call_LEN (by rfl) Y.m_len (by decide +kernel) (pa_cons (pe_fld (pv 0) rfl) pa_nil)) pa_nil))))
    (pss_cons (ps_expr (pe_meth0 (pv 0) Y.c_Disk Y.mm_Disk_need_power G_Disk_need_power (hr.mono (by decide)) Y.b_Disk_need_power .nil (passT (takes_of rfl rfl rfl rfl))))
    (pss_cons (ps_for (passes_of rfl) rfl (RT.pi_revA (by rfl) Y.m_reversed (pe_fld (pv 0) rfl)) (pg_tup rfl (pgs_cons (pg_name (i := 2) sc_Disk_read.nd rfl (Or.inl rfl)) (pgs_cons (pg_name (i := 3) sc_Disk_read.nd rfl (Or.inl rfl)) pgs_nil))) (pss_one (ps_if (pt_cmpR (op_EQ (hu_64 hr)) (pv 2) (pv 1) (nomark _)) (pss_one (ps_ret (pv 3))) pss_nil)))
    (pss_one (ps_ret (pe_ix ix_SEQ (pe_fld (pv 0) rfl) (pv 1) (fun _ _ => rfl)))))))
def t_Disk_write (K : PySem.W.Frag) {mg : Str → Option Value} (Y : Fx K mg) (E : XK) (sp_Disk_take_step : PySem.W.Frag → Sp) (sp_check_block : PySem.W.Frag → Sp) (sp_check_index : PySem.W.Frag → Sp) : TS :=
    (tSeq (tDrop (tCall (sp_check_index K) [] E (tCons (tVar 1) (tCons (tCB (rLEN K) (tCons (tFld K (tVar 0) "image") tNil)) tNil))))
    (tSeq (tDrop (tCall (sp_check_block K) [] E (tCons (tVar 2) (tCons (tFld K (tVar 0) "signs") tNil))))
    (tSeq (tDrop (tMeth Y.C_Disk "take_step" (sp_Disk_take_step K) [] E (tVar 0) tNil))
    (sFld K (tVar 0) (tOp (rADD K) (tFld K (tVar 0) "pending") (tTup (tCons (tTup (tCons (tVar 1) (tCons (tVar 2) tNil))) tNil))) "pending"))))
theorem b_Disk_write (Y : Fx K mg) {sp_Disk_take_step : PySem.W.Frag → Sp} {sp_check_block : PySem.W.Frag → Sp} {sp_check_index : PySem.W.Frag → Sp} (G_Disk_take_step : FnOk P w K mg base (L2.CX P w) 2 Y.a_Disk_take_step Y.fd_Disk_take_step ["self"] (sp_Disk_take_step K)) (G_check_block : FnOk P w K mg base (L2.CX P w) 3 Y.a_check_block Y.fd_check_block ["block", "signs"] (sp_check_block K)) (G_check_index : FnOk P w K mg base (L2.CX P w) 2 Y.a_check_index Y.fd_check_index ["index", "many"] (sp_check_index K)) {f : Addr} {cdv : Value} {A : Around} {outer : List Env} {s : Shared} {H : Hp} {E : XK} (hr : Room 3 (A.deeper (envOfC "Disk.write" (defScope s_Disk_write) s.heap.objs.size f cdv))) :
    PSs (cxOf (L2.CX P w) P w K mg base ["self", "index", "block"] "Disk.write" (defScope s_Disk_write) f cdv A outer s H E) (defBody s_Disk_write) (t_Disk_write K Y E sp_Disk_take_step sp_check_block sp_check_index) :=
    (pss_cons (ps_expr (pe_call G_check_index (hr.mono (by decide)) (by rfl) Y.g_check_index Y.F_check_index.kp Y.b_check_index .nil (passT (takes_of rfl rfl rfl rfl)) (pa_cons (pv 1) (pa_cons (pe_callB call_LEN (by rfl) Y.m_len (by decide +kernel) (pa_cons (pe_fld (pv 0) rfl) pa_nil)) pa_nil))))
    (pss_cons (ps_expr (pe_call G_check_block (hr.mono (by decide)) (by rfl) Y.g_check_block Y.F_check_block.kp Y.b_check_block .nil (passT (takes_of rfl rfl rfl rfl)) (pa_cons (pv 2) (pa_cons (pe_fld (pv 0) rfl) pa_nil))))
    (pss_cons (ps_expr (pe_meth0 (pv 0) Y.c_Disk Y.mm_Disk_take_step G_Disk_take_step (hr.mono (by decide)) Y.b_Disk_take_step .nil (passT (takes_of rfl rfl rfl rfl))))
    (pss_one (ps_fld (pv 0) (pe_op op_ADD (pe_fld (pv 0) rfl) (pe_tup (pa_cons (pe_tup (pa_cons (pv 1) (pa_cons (pv 2) pa_nil))) pa_nil))) rfl)))))
def t_Disk_flush (K : PySem.W.Frag) {mg : Str → Option Value} (Y : Fx K mg) (E : XK) (sp_Disk_take_step : PySem.W.Frag → Sp) : TS :=
    (tSeq (tDrop (tMeth Y.C_Disk "take_step" (sp_Disk_take_step K) [] E (tVar 0) tNil))
    (tSeq (tAsg (tCB (rLIST K) (tCons (tFld K (tVar 0) "image") tNil)) (gName 1))
    (tSeq (tFor (iTup K (tFld K (tVar 0) "pending")) (gTup K 2 (gCons (gName 2) (gCons (gName 3) gNil))) (tAsg (tVar 3) (gSub (tVar 1) (tVar 2) rSetL)))
    (tSeq (sFld K (tVar 0) (tCB (rTUPLE K) (tCons (tVar 1) tNil)) "image")
    (sFld K (tVar 0) (tTup tNil) "pending")))))
theorem b_Disk_flush (Y : Fx K mg) {sp_Disk_take_step : PySem.W.Frag → Sp} (G_Disk_take_step : FnOk P w K mg base (L2.CX P w) 2 Y.a_Disk_take_step Y.fd_Disk_take_step ["self"] (sp_Disk_take_step K)) {f : Addr} {cdv : Value} {A : Around} {outer : List Env} {s : Shared} {H : Hp} {E : XK} (hr : Room 2 (A.deeper (envOfC "Disk.flush" (defScope s_Disk_flush) s.heap.objs.size f cdv))) :
    PSs (cxOf (L2.CX P w) P w K mg base ["self", "blocks", "index", "block"] "Disk.flush" (defScope s_Disk_flush) f cdv A outer s H E) (defBody s_Disk_flush) (t_Disk_flush K Y E sp_Disk_take_step) :=
    (pss_cons (ps_expr (pe_meth0 (pv 0) Y.c_Disk Y.mm_Disk_take_step G_Disk_take_step (hr.mono (by decide)) Y.b_Disk_take_step .nil (passT (takes_of rfl rfl rfl rfl))))
    (pss_cons (ps_set (i := 1) sc_Disk_flush.nd rfl (Or.inl rfl) (pe_callTy call_LIST (by rfl) Y.m_list (by decide +kernel) (pa_cons (pe_fld (pv 0) rfl) pa_nil)))
    (pss_cons (ps_for (passes_of rfl) rfl (pi_tup (pe_fld (pv 0) rfl)) (pg_tup rfl (pgs_cons (pg_name (i := 2) sc_Disk_flush.nd rfl (Or.inl rfl)) (pgs_cons (pg_name (i := 3) sc_Disk_flush.nd rfl (Or.inl rfl)) pgs_nil))) (pss_one (ps_asg (pv 3) (pg_sub (pv 1) (pv 2) set_list))))
    (pss_cons (ps_fld (pv 0) (pe_callTy call_TUPLE (by rfl) Y.m_tuple (by decide +kernel) (pa_cons (pv 1) pa_nil)) rfl)
    (pss_one (ps_fld (pv 0) (pe_tup pa_nil) rfl))))))
def t_Disk_behind (K : PySem.W.Frag) {mg : Str → Option Value} (Y : Fx K mg) (sp_Disk_offers : PySem.W.Frag → Sp) (sp_is_number : PySem.W.Frag → Sp) : TS :=
    (tSeq (tAsg (tMeth Y.C_Disk "offers" (sp_Disk_offers K) [] E0 (tVar 0) tNil) (gName 2))
    (tSeq (tIfS (tOr (tTest (tOp (rISN K) (tCB (rTyp K) (tCons (tVar 1) tNil)) (tC (.ty "tuple")))) (tTest (tOp (rNE K) (tCB (rLEN K) (tCons (tVar 1) tNil)) (tCB (rLEN K) (tCons (tVar 2) tNil))))) tNever tNext)
    (tSeq (tFor (iZipM K (tCons (tVar 1) (tCons (tVar 2) tNil))) (gTup K 2 (gCons (gName 3) (gCons (gName 4) gNil))) (tIfS (tNot (tTru1 K (tCall (sp_is_number K) [] E0 (tCons (tVar 3) (tCons (tC (.int 0)) (tCons (tOp rSUB (tCB (rLEN K) (tCons (tVar 4) tNil)) (tC (.int 1))) tNil)))))) tNever tNext))
    (tRet (tCB (rTUPLE K) (tCons (tLc (iZipM K (tCons (tVar 1) (tCons (tVar 2) tNil))) (gTup K 2 (gCons (gName 3) (gCons (gName 4) gNil))) tYes (tOp (rIX K) (tVar 4) (tVar 3)) [3, 4]) tNil))))))
theorem b_Disk_behind (Y : Fx K mg) {sp_Disk_offers : PySem.W.Frag → Sp} {sp_is_number : PySem.W.Frag → Sp} (G_Disk_offers : FnOk P w K mg base CX0 1 Y.a_Disk_offers Y.fd_Disk_offers ["self"] (sp_Disk_offers K)) (G_is_number : FnOk P w K mg base CX0 1 Y.a_is_number Y.fd_is_number ["value", "low", "high"] (sp_is_number K)) {f : Addr} {cdv : Value} {A : Around} {outer : List Env} {s : Shared} {H : Hp} {E : XK} (hr : Room 1 (A.deeper (envOfC "Disk.behind" (defScope s_Disk_behind) s.heap.objs.size f cdv))) :
    PSs (cxOf CX0 P w K mg base ["self", "choice", "offers", "picked", "blocks"] "Disk.behind" (defScope s_Disk_behind) f cdv A outer s H E).nox (defBody s_Disk_behind) (t_Disk_behind K Y sp_Disk_offers sp_is_number) :=
    (pss_cons (ps_set (i := 2) sc_Disk_behind.nd rfl (Or.inl rfl) (pe_meth0 (pv 0) Y.c_Disk Y.mm_Disk_offers G_Disk_offers (hr.mono (by decide)) Y.b_Disk_offers .nil pass0))
    (pss_cons (ps_if (PW.pt (pw_or (pt_cmpR op_ISN (pe_callTy call_type1 (by rfl) Y.m_type (by decide +kernel) (pa_cons (pv 1) pa_nil)) (pe_bltn (v := .ty "tuple") (by rfl) Y.m_tuple (by decide +kernel) rfl) (nomark _)) (pw_or1 (pt_cmpR (op_NE (hu_64 hr)) (pe_callB call_LEN (by rfl) Y.m_len (by decide +kernel) (pa_cons (pv 1) pa_nil)) (pe_callB call_LEN (by rfl) Y.m_len (by decide +kernel) (pa_cons (pv 2) pa_nil)) (nomark _))))) (pss_one ps_never) pss_nil)
    (pss_cons (ps_for PassesOwn.never rfl (pi_zipM (by rfl) Y.m_zip (pa_cons (pv 1) (pa_cons (pv 2) pa_nil))) (pg_tup rfl (pgs_cons (pg_name (i := 3) sc_Disk_behind.nd rfl (Or.inl rfl)) (pgs_cons (pg_name (i := 4) sc_Disk_behind.nd rfl (Or.inl rfl)) pgs_nil))) (pss_one (ps_if (pt_not (pt_tru (pe_call G_is_number (hr.mono (by decide)) (by rfl) Y.g_is_number Y.F_is_number.kp Y.b_is_number .nil pass0 (pa_cons (pv 3) (pa_cons pe_int (pa_cons (pe_op op_SUB (pe_callB call_LEN (by rfl) Y.m_len (by decide +kernel) (pa_cons (pv 4) pa_nil)) pe_int) pa_nil)))) (by intro _; rfl))) (pss_one ps_never) pss_nil)))
    (pss_one (ps_ret (pe_callTy call_TUPLE (by rfl) Y.m_tuple (by decide +kernel) (pa_cons (pe_lc (own := [("picked", 3), ("blocks", 4)]) (by rfl) sc_Disk_behind.nd (pi_zipM (by rfl) Y.m_zip (pa_cons (pv 1) (pa_cons (pv 2) pa_nil))) (blkOk_by (own := [("picked", 3), ("blocks", 4)]) (N := ["self", "choice", "offers", "picked", "blocks"]) (sc := defScope s_Disk_behind) (by decide +kernel)) (fun _ _ _ _ _ => (pg_tup rfl (pgs_cons (pg_name (i := 3) sc_Disk_behind.nd rfl (Or.inl rfl)) (pgs_cons (pg_name (i := 4) sc_Disk_behind.nd rfl (Or.inl rfl)) pgs_nil)))) (fun _ _ _ _ _ => pts_nil) (fun _ _ _ _ _ => (pe_ix ix_SEQ (pv 4) (pv 3) (fun _ _ => rfl)))) pa_nil)))))))
def t_Disk_offers (K : PySem.W.Frag)  : TS :=
    (tSeq (tAsg (tLc (iTup K (tFld K (tVar 0) "image")) (gName 2) tYes (tLst (tCons (tVar 2) tNil)) [2]) (gName 1))
    (tSeq (tFor (iTup K (tFld K (tVar 0) "pending")) (gTup K 2 (gCons (gName 3) (gCons (gName 2) gNil))) (tDrop (tBM K "list" rAppend (tOp (rIX K) (tVar 1) (tVar 3)) (tCons (tVar 2) tNil))))
    (tRet (tVar 1))))
theorem b_Disk_offers (Y : Fx K mg)   {f : Addr} {cdv : Value} {A : Around} {outer : List Env} {s : Shared} {H : Hp} {E : XK} (hr : Room 0 (A.deeper (envOfC "Disk.offers" (defScope s_Disk_offers) s.heap.objs.size f cdv))) :
    PSs (cxOf CX0 P w K mg base ["self", "offers", "block", "index"] "Disk.offers" (defScope s_Disk_offers) f cdv A outer s H E).nox (defBody s_Disk_offers) (t_Disk_offers K ) :=
    (pss_cons (ps_setLc (i := 1) (own := [("block", 2)]) (by rfl) sc_Disk_offers.nd rfl rfl (sw_true rfl rfl rfl (by decide +kernel)) (pi_tup (pe_fld (pv 0) rfl)) (blkOk_by (own := [("block", 2)]) (N := ["self", "offers", "block", "index"]) (sc := defScope s_Disk_offers) (by decide +kernel)) (fun _ _ _ _ _ => (pg_name (i := 2) sc_Disk_offers.nd rfl (Or.inl rfl))) (fun _ _ _ _ _ => pts_nil) (fun _ _ _ _ _ => (pe_lst (pa_cons (pv 2) pa_nil))))
    (pss_cons (ps_for PassesOwn.never rfl (pi_tup (pe_fld (pv 0) rfl)) (pg_tup rfl (pgs_cons (pg_name (i := 3) sc_Disk_offers.nd rfl (Or.inl rfl)) (pgs_cons (pg_name (i := 2) sc_Disk_offers.nd rfl (Or.inl rfl)) pgs_nil))) (pss_one (ps_expr (pe_bm PySem.F.plainAttrs_list PySem.F.slot_list_append PySem.F.type_list_append mt_append (pe_ix ix_SEQ (pv 1) (pv 3) (fun _ _ => rfl)) (pa_cons (pv 2) pa_nil)))))
    (pss_one (ps_ret (pv 1)))))
def t_Disk_need_power (K : PySem.W.Frag) {mg : Str → Option Value} (Y : Fx K mg) (E : XK)  : TS :=
    (tIfS (tTru1 K (tFld K (tVar 0) "out")) (tRaise (.ref Y.x_PowerCut) E) tNext)
theorem b_Disk_need_power (Y : Fx K mg)   {f : Addr} {cdv : Value} {A : Around} {outer : List Env} {s : Shared} {H : Hp} {E : XK} (hr : Room 0 (A.deeper (envOfC "Disk.need_power" (defScope s_Disk_need_power) s.heap.objs.size f cdv))) :
    PSs (cxOf (L2.CX P w) P w K mg base ["self"] "Disk.need_power" (defScope s_Disk_need_power) f cdv A outer s H E) (defBody s_Disk_need_power) (t_Disk_need_power K Y E ) :=
    (pss_one (ps_if (pt_tru (pe_fld (pv 0) rfl) (by intro _; rfl)) (pss_one (ps_raiseE rfl (takes_of rfl rfl rfl rfl) PySem.F.excBase_ValueError Y.e_PowerCut Y.q_PowerCut Y.k_PowerCut (raises_own Y.s_PowerCut Y.t_PowerCut) (by rfl))) pss_nil))
def t_Disk_take_step (K : PySem.W.Frag) {mg : Str → Option Value} (Y : Fx K mg) (E : XK) (sp_Disk_need_power : PySem.W.Frag → Sp) : TS :=
    (tSeq (tDrop (tMeth Y.C_Disk "need_power" (sp_Disk_need_power K) [] E (tVar 0) tNil))
    (tSeq (tIfS (tTest (tOp (rEQ K) (tFld K (tVar 0) "steps") (tC (.int 0)))) (tSeq (sFld K (tVar 0) (tC (.bl true)) "out")
      (tRaise (.ref Y.x_PowerCut) E)) tNext)
    (tIfS (tTest (tOp (rISN K) (tFld K (tVar 0) "steps") (tC .non))) (sFld K (tVar 0) (tOp rSUB (tFld K (tVar 0) "steps") (tC (.int 1))) "steps") tNext)))
theorem b_Disk_take_step (Y : Fx K mg) {sp_Disk_need_power : PySem.W.Frag → Sp} (G_Disk_need_power : FnOk P w K mg base (L2.CX P w) 1 Y.a_Disk_need_power Y.fd_Disk_need_power ["self"] (sp_Disk_need_power K)) {f : Addr} {cdv : Value} {A : Around} {outer : List Env} {s : Shared} {H : Hp} {E : XK} (hr : Room 1 (A.deeper (envOfC "Disk.take_step" (defScope s_Disk_take_step) s.heap.objs.size f cdv))) :
    PSs (cxOf (L2.CX P w) P w K mg base ["self"] "Disk.take_step" (defScope s_Disk_take_step) f cdv A outer s H E) (defBody s_Disk_take_step) (t_Disk_take_step K Y E sp_Disk_need_power) :=
    (pss_cons (ps_expr (pe_meth0 (pv 0) Y.c_Disk Y.mm_Disk_need_power G_Disk_need_power (hr.mono (by decide)) Y.b_Disk_need_power .nil (passT (takes_of rfl rfl rfl rfl))))
    (pss_cons (ps_if (pt_cmpR (op_EQ (hu_64 hr)) (pe_fld (pv 0) rfl) pe_int (nomark _)) (pss_cons (ps_fld (pv 0) pe_bl rfl)
      (pss_one (ps_raiseE rfl (takes_of rfl rfl rfl rfl) PySem.F.excBase_ValueError Y.e_PowerCut Y.q_PowerCut Y.k_PowerCut (raises_own Y.s_PowerCut Y.t_PowerCut) (by rfl)))) pss_nil)
    (pss_one (ps_if (pt_cmpR op_ISN (pe_fld (pv 0) rfl) pe_non (nomark _)) (pss_one (ps_fld (pv 0) (pe_op op_SUB (pe_fld (pv 0) rfl) pe_int) rfl)) pss_nil))))
end
end My

set_option Elab.async false
set_option linter.all false
set_option maxRecDepth 100000
set_option maxHeartbeats 1000000
namespace My
open PySem PySem.Spec PyProof.Rows L2
local macro_rules | `(tactic| walk_at "side") => `(tactic| first | assumption | exact Nat.zero_le _ | decide | omega)
local macro_rules | `(tactic| walk_at "rd1") => `(tactic| first
  | with_reducible refine s_seq ?_
  | with_reducible refine x_gsub ?_
  | with_reducible refine s_asg ?_
  | ((with_reducible refine s_gn ?_); dsimp only [List.set])
  | ((with_reducible refine x_var (v := ?rdv) ?rdhv ?_); (case rdhv => rfl))
  | with_reducible refine x_c ?_
  | with_reducible refine x_op ?_
  | with_reducible refine x_cons ?_
  | with_reducible refine x_nil ?_
  | with_reducible refine x_cb ?_
  | with_reducible refine x_call ?_
  | with_reducible refine s_if ?_
  | with_reducible refine s_ret ?_
  | with_reducible refine s_retN ?_
  | with_reducible refine s_next ?_
  | with_reducible refine s_brk ?_
  | with_reducible refine s_cont ?_
  | with_reducible refine s_drop ?_
  | with_reducible refine s_par ?_
  | with_reducible refine s_par3 ?_
  | ((with_reducible refine s_p2 ?_); dsimp only [List.set])
  | ((with_reducible refine s_p3 ?_); dsimp only [List.set])
  | with_reducible refine f_r1 ?_
  | with_reducible refine f_r2 ?_
  | with_reducible refine f_l ?_
  | with_reducible refine f_t ?_
  | with_reducible refine f_s ?_
  | with_reducible refine c_r1 ?_
  | with_reducible refine c_r2 ?_
  | with_reducible refine c_l ?_
  | with_reducible refine c_t ?_
  | with_reducible refine c_s ?_
  | with_reducible refine x_tst ?_
  | with_reducible refine x_tru ?_
  | with_reducible refine x_truB ?_
  | with_reducible refine x_bl2 ?_
  | with_reducible refine x_int ?_
  | with_reducible refine x_str ?_
  | with_reducible refine x_not ?_
  | with_reducible refine x_and ?_
  | with_reducible refine x_or ?_
  | with_reducible refine x_andV ?_
  | with_reducible refine x_orV ?_
  | with_reducible refine x_notV ?_
  | with_reducible refine x_if ?_
  | with_reducible refine x_yes ?_
  | with_reducible refine x_un ?_
  | with_reducible refine x_tup ?_
  | with_reducible refine x_lst ?_
  | with_reducible refine x_callK ?_
  | with_reducible refine x_callK0 ?_
  | with_reducible refine x_bm ?_
  | with_reducible refine x_bm0 ?_
  | with_reducible refine x_tyS ?_
  | with_reducible refine x_sl ?_
  | with_reducible refine x_nopart ?_
  | with_reducible refine x_part ?_
  | with_reducible refine x_fmt0 ?_
  | with_reducible refine x_fmt ?_
  | with_reducible refine x_chain ?_
  | with_reducible refine a_ii ?_
  | with_reducible refine s_ii ?_
  | ((with_reducible refine md_ii ?rdc ?_); (case rdc => first | decide | assumption | omega))
  | with_reducible refine n_i ?_
  | with_reducible refine e_ii ?_
  | with_reducible refine e_bb ?_
  | with_reducible refine ne_ii ?_
  | with_reducible refine ne_bb ?_
  | with_reducible refine lt_ii ?_
  | with_reducible refine lt_ss ?_
  | with_reducible refine le_ii ?_
  | with_reducible refine gt_ii ?_
  | with_reducible refine gt_ss ?_
  | with_reducible refine ge_ii ?_
  | with_reducible refine e_ss ?_
  | with_reducible refine ne_ss ?_
  | with_reducible refine is_N ?_
  | with_reducible refine is_T ?_
  | with_reducible refine is_B ?_
  | with_reducible refine isn_N ?_
  | with_reducible refine isn_T ?_
  | with_reducible refine isn_B ?_
  | with_reducible refine in_s ?_
  | with_reducible refine nin_s ?_
  | with_reducible refine i_i ?_
  | with_reducible refine i_b ?_
  | with_reducible refine ab_i ?_
  | with_reducible refine mx_ii ?_
  | with_reducible refine mn_ii ?_
  | with_reducible refine ty_N ?_
  | with_reducible refine ty_B ?_
  | with_reducible refine ty_I ?_
  | with_reducible refine ty_S ?_
  | with_reducible refine ma_s ?_
  | with_reducible refine mp_s ?_
  | with_reducible refine mdg_s ?_
  | with_reducible refine mf_s ?_
  | with_reducible refine iteT ?_
  | with_reducible refine iteF ?_
  | with_reducible refine iteNt ?_
  | with_reducible refine iteNf ?_
  | with_reducible refine iteTd (by decide) ?_
  | with_reducible refine iteFd (by decide) ?_
  | with_reducible refine iteNd (by decide) ?_
  | with_reducible refine iteNdF (by decide) ?_
  | ((with_reducible refine iteFd ?rdn ?_); (case rdn => (intro rdz; cases rdz; done)))
  | ((with_reducible refine iteNdF ?rdn ?_); (case rdn => (intro rdz; cases rdz; done))))
local macro_rules | `(tactic| walk_at "rd") => `(tactic| (repeat walk_at "rd1"))
section
variable {P : Program} {w : World} {K : PySem.W.Frag} {mg : Str → Option Value} {base : Heap}
/-! the law's spring -/
def SprAt (H : Hp) (s g : Addr) : Prop := ∃ (gr : List Int) (m c : Int), H s = some (.lst [.ref g, .int m, .int c]) ∧ H g = some (.lst (gr.map V.int)) ∧ 0 ≤ m ∧ m < 2 ^ 62 ∧ gr.length ≤ 1000
theorem ints_ne {g : Addr} {m c : Int} {gr : List Int} : (HO.lst [.ref g, .int m, .int c]) ≠ .lst (gr.map V.int) := by
  intro e
  injection e with e
  cases gr with
  | nil => cases e
  | cons x xs =>
    injection e with e1 e2
    cases e1
theorem SprAt.ne {H : Hp} {s g : Addr} (h : SprAt H s g) : s ≠ g := by
  obtain ⟨gr, m, c, h1, h2, _⟩ := h
  exact ne_of h1 h2 ints_ne
theorem SprAt.new {H : Hp} {s g p : Addr} {o : HO} (h : SprAt H s g) (hp : H p = none) : SprAt (upd H p o) s g := by
  obtain ⟨gr, m, c, h1, h2, h3⟩ := h
  exact ⟨gr, m, c, by rw [upd_ne (ne_of_none h1 hp)]; exact h1, by rw [upd_ne (ne_of_none h2 hp)]; exact h2, h3⟩
/-- a new object's later change -/
theorem SprAt.keep {H : Hp} {s g p : Addr} {o : HO} (h : SprAt H s g) (h1 : p ≠ s) (h2 : p ≠ g) : SprAt (upd H p o) s g := by
  obtain ⟨gr, m, c, e1, e2, h3⟩ := h
  exact ⟨gr, m, c, by rw [upd_ne (Ne.symm h1)]; exact e1, by rw [upd_ne (Ne.symm h2)]; exact e2, h3⟩
theorem SprAt.off {H : Hp} {s g p : Addr} (h : SprAt H s g) (hp : H p = none) : p ≠ s ∧ p ≠ g := by
  obtain ⟨gr, m, c, h1, h2, _⟩ := h
  exact ⟨ne_new h1 hp, ne_new h2 hp⟩
def sp__law_drop (K : PySem.W.Frag) : Sp := fun vs H Q _ => ∃ (s g : Addr) (n : Int), vs = [.ref s, .int n] ∧ SprAt H s g ∧ 0 < n ∧ n < 2 ^ 40 ∧ ∀ r H', 0 ≤ r → r < n → SprAt H' s g → Frm s g H H' → Q (.int r) H'
theorem ok__law_drop (Y : Fx K mg) : FnOk P w K mg base CX0 1 Y.a__law_drop Y.fd__law_drop ["_law_spring_here", "_law_many"] (sp__law_drop K) := by
  refine Y.F__law_drop.ok sc__law_drop (fun vs H Q E h => ?_) (fun cdv A outer st H vs Q E hr h => ?_)
  · obtain ⟨s, g, n, rfl, _⟩ := h
    rfl
  · obtain ⟨s, g, n, rfl, hSp, hn0, hn1, q⟩ := h
    have hne := hSp.ne
    obtain ⟨gr, m, c, hs, hg, hm0, hm1, hgl⟩ := hSp
    refine ⟨_, b__law_drop Y hr, ?_⟩
    show t__law_drop K _ [some (.ref s), some (.int n), none, none] H
    unfold t__law_drop
    walk_at "rd"
    refine ix_L (lst_of hs) (by rfl) ?_
    walk_at "rd"
    refine w_while (fun k σ H' => σ = [some (.ref s), some (.int n), some (.ref g), none] ∧ ∃ gr : List Int, gr.length = k ∧ gr.length ≤ 1000 ∧ H' s = some (.lst [.ref g, .int m, .int c]) ∧ H' g = some (.lst (gr.map V.int)) ∧ Frm s g H H') gr.length ⟨rfl, gr, rfl, hgl, hs, hg, Frm.refl H⟩ (fun k σ H1 hW => ?_)
    obtain ⟨rfl, gr1, hk, hl1, hs1, hg1, hF1⟩ := hW
    -- what stands behind the loop
    have after : ∀ H2 : Hp, H2 s = some (.lst [.ref g, .int m, .int c]) → H2 g = some (.lst (gr1.map V.int)) → Frm s g H H2 →
        (tSeq (tIfS (tTest (tOp (rNE K) (tVar 2) (tLst tNil))) (tSeq (tAsg (tOp rMOD (tCB rINT (tCons (tOp (rIX K) (tVar 2) (tC (.int 0))) tNil)) (tVar 1)) (gName 3))
      (tSeq (tAsg (tOp rFDIV (tOp (rIX K) (tVar 2) (tC (.int 0))) (tVar 1)) (gSub (tVar 2) (tC (.int 0)) rSetL))
      (tRet (tVar 3)))) tNext)
    (tSeq (tAsg (tOp (rADD K) (tOp (rIX K) (tVar 0) (tC (.int 2))) (tC (.int 1))) (gSub (tVar 0) (tC (.int 2)) rSetL))
    (tSeq (tAsg (tOp rMOD (tCB rINT (tCons (tOp (rADD K) (tOp (rMUL K) (tOp (rIX K) (tVar 0) (tC (.int 1))) (tC (.int 6364136223846793005))) (tOp (rMUL K) (tOp (rIX K) (tVar 0) (tC (.int 2))) (tC (.int 1442695040888963407)))) tNil)) (tC (.int 2305843009213693951))) (gSub (tVar 0) (tC (.int 1)) rSetL))
    (tRet (tOp rMOD (tOp rFDIV (tOp rMOD (tCB rINT (tCons (tOp (rMUL K) (tOp (rIX K) (tVar 0) (tC (.int 1))) (tOp (rIX K) (tVar 0) (tC (.int 1)))) tNil)) (tC (.int 2305843009213693921))) (tC (.int 1048576))) (tVar 1))))))
        { nx := fun _ H' => Q .non H', rt := Q } [some (.ref s), some (.int n), some (.ref g), none] H2 := by
      intro H2 hs2 hg2 hF2
      walk_at "rd"
      refine ⟨Nat.zero_le _, fun p hp => ?_⟩
      have hs3 : (upd H2 p (.lst [])) s = some (.lst [.ref g, .int m, .int c]) := by rw [upd_ne (ne_of_none hs2 hp)]; exact hs2
      have hg3 : (upd H2 p (.lst [])) g = some (.lst (gr1.map V.int)) := by rw [upd_ne (ne_of_none hg2 hp)]; exact hg2
      have hF3 : Frm s g H (upd H2 p (.lst [])) := hF2.new hp
      refine ne_d (dp_ints gr1 (lst_of hg3)) (.lst (lst_of upd_same) .nil) (shaped_ints gr1) (by decide) ?_
      generalize upd H2 p (.lst []) = H3 at hs3 hg3 hF3
      cases gr1 with
      | nil =>
        show ∃ k, V.bl (!true) = .bl k ∧ _
        walk_at "rd"
        refine ix_L (lst_of hs3) (by rfl) ?_
        walk_at "rd"
        refine st_L hs3 (by decide) (by show (2 : Int) < 3; decide) ?_
        have hs4 : (upd H3 s (.lst [.ref g, .int m, .int (c + 1)])) s = some (.lst [.ref g, .int m, .int (c + 1)]) := upd_same
        have hg4 : (upd H3 s (.lst [.ref g, .int m, .int (c + 1)])) g = some (.lst (([] : List Int).map V.int)) := by rw [upd_ne (Ne.symm hne)]; exact hg3
        have hF4 : Frm s g H (upd H3 s (.lst [.ref g, .int m, .int (c + 1)])) := hF3.updS
        show tSeq _ _ _ _ (upd H3 s (.lst [.ref g, .int m, .int (c + 1)]))
        generalize upd H3 s (.lst [.ref g, .int m, .int (c + 1)]) = H4 at hs4 hg4 hF4
        walk_at "rd"
        refine ix_L (lst_of hs4) (by rfl) ?_
        walk_at "rd"
        refine m_ii (.inl (.inr (by decide))) ?_
        walk_at "rd"
        refine ix_L (lst_of hs4) (by rfl) ?_
        walk_at "rd"
        refine m_ii (.inl (.inr (by decide))) ?_
        walk_at "rd"
        generalize he : (m * 6364136223846793005 + (c + 1) * 1442695040888963407) % 2305843009213693951 = m2
        have b0 : 0 ≤ m2 := by rw [← he]; exact Int.emod_nonneg _ (by decide)
        have b1 : m2 < 2305843009213693951 := by rw [← he]; exact Int.emod_lt_of_pos _ (by decide)
        refine st_L hs4 (by decide) (by show (1 : Int) < 3; decide) ?_
        have hs5 : (upd H4 s (.lst [.ref g, .int m2, .int (c + 1)])) s = some (.lst [.ref g, .int m2, .int (c + 1)]) := upd_same
        have hg5 : (upd H4 s (.lst [.ref g, .int m2, .int (c + 1)])) g = some (.lst (([] : List Int).map V.int)) := by rw [upd_ne (Ne.symm hne)]; exact hg4
        have hF5 : Frm s g H (upd H4 s (.lst [.ref g, .int m2, .int (c + 1)])) := hF4.updS
        show tRet _ _ _ (upd H4 s (.lst [.ref g, .int m2, .int (c + 1)]))
        generalize upd H4 s (.lst [.ref g, .int m2, .int (c + 1)]) = H5 at hs5 hg5 hF5
        walk_at "rd"
        refine ix_L (lst_of hs5) (by rfl) ?_
        walk_at "rd"
        refine ix_L (lst_of hs5) (by rfl) ?_
        refine m_ii (.inl (.inl ⟨by omega, by omega⟩)) ?_
        walk_at "rd"
        refine fd_ii ⟨by decide, by decide⟩ ?_
        walk_at "rd"
        exact q _ _ (Int.emod_nonneg _ (by omega)) (Int.emod_lt_of_pos _ hn0) ⟨[], m2, c + 1, hs5, hg5, b0, by omega, by decide⟩ hF5
      | cons x xs =>
        show ∃ k, V.bl (!false) = .bl k ∧ _
        walk_at "rd"
        refine ix_L (lst_of hg3) (at_nat (by decide) rfl) ?_
        walk_at "rd"
        refine ix_L (lst_of hg3) (at_nat (by decide) rfl) ?_
        walk_at "rd"
        refine fd_ii ⟨hn0, log_40 hn0 hn1⟩ ?_
        walk_at "rd"
        refine st_L hg3 (by decide) (by show (0 : Int) < ((xs.map V.int).length + 1 : Nat); omega) ?_
        walk_at "rd"
        refine q _ _ (Int.emod_nonneg _ (by omega)) (Int.emod_lt_of_pos _ hn0) ⟨(x / n) :: xs, m, c, ?_, upd_same, hm0, hm1, hl1⟩ hF3.updG
        rw [upd_ne hne]
        exact hs3
    walk_at "rd"
    refine ⟨Nat.zero_le _, fun p hp => ?_⟩
    have hs3 : (upd H1 p (.lst [])) s = some (.lst [.ref g, .int m, .int c]) := by rw [upd_ne (ne_of_none hs1 hp)]; exact hs1
    have hg3 : (upd H1 p (.lst [])) g = some (.lst (gr1.map V.int)) := by rw [upd_ne (ne_of_none hg1 hp)]; exact hg1
    have hF3 : Frm s g H (upd H1 p (.lst [])) := hF1.new hp
    refine ne_d (dp_ints gr1 (lst_of hg3)) (.lst (lst_of upd_same) .nil) (shaped_ints gr1) (by decide) ?_
    generalize upd H1 p (.lst []) = H3 at hs3 hg3 hF3
    cases gr1 with
    | nil =>
      show ∃ k, V.bl (!true) = .bl k ∧ _
      refine x_bl2 ?_
      refine iteNt ?_
      refine iteF ?_
      exact after H3 hs3 hg3 hF3
    | cons x xs =>
      show ∃ k, V.bl (!false) = .bl k ∧ _
      walk_at "rd"
      refine ix_L (lst_of hg3) (at_nat (by decide) rfl) ?_
      walk_at "rd"
      refine ite2' (fun e => ?_) (fun e => ?_)
      · refine ⟨fun σ' H' => ∃ k', k' < k ∧ (σ' = [some (.ref s), some (.int n), some (.ref g), none] ∧ ∃ gr : List Int, gr.length = k' ∧ gr.length ≤ 1000 ∧ H' s = some (.lst [.ref g, .int m, .int c]) ∧ H' g = some (.lst (gr.map V.int)) ∧ Frm s g H H'), fun _ _ h => h, ?_⟩
        walk_at "rd"
        refine x_tyL (lst_of hg3) ?_
        walk_at "rd"
        refine pop_L hg3 ?_
        refine ⟨xs.length, by rw [← hk]; exact Nat.lt_succ_self _, rfl, xs, rfl, Nat.le_of_succ_le hl1, ?_, upd_same, hF3.updG⟩
        rw [upd_ne hne]
        exact hs3
      · exact after H3 hs3 hg3 hF3
end
end My

set_option Elab.async false
set_option linter.all false
set_option maxRecDepth 100000
set_option maxHeartbeats 1000000
namespace My
open PySem PySem.Spec PyProof.Rows L2
local macro_rules | `(tactic| walk_at "len") => `(tactic| first | assumption | omega | decide | (simp only [List.length_append, List.length_take, List.length_drop, List.length_cons, List.length_nil, List.length_replicate]; omega))
local macro_rules | `(tactic| walk_at "side") => `(tactic| first | assumption | exact Nat.zero_le _ | decide | omega)
local macro_rules | `(tactic| walk_at "rd1") => `(tactic| first
  | with_reducible refine s_seq ?_
  | with_reducible refine x_gsub ?_
  | with_reducible refine s_asg ?_
  | ((with_reducible refine s_gn ?_); dsimp only [List.set])
  | ((with_reducible refine x_var (v := ?rdv) ?rdhv ?_); (case rdhv => rfl))
  | with_reducible refine x_c ?_
  | with_reducible refine x_op ?_
  | with_reducible refine x_cons ?_
  | with_reducible refine x_nil ?_
  | with_reducible refine x_cb ?_
  | with_reducible refine x_call ?_
  | with_reducible refine s_if ?_
  | with_reducible refine s_ret ?_
  | with_reducible refine s_retN ?_
  | with_reducible refine s_next ?_
  | with_reducible refine s_brk ?_
  | with_reducible refine s_cont ?_
  | with_reducible refine s_drop ?_
  | with_reducible refine s_par ?_
  | with_reducible refine s_par3 ?_
  | ((with_reducible refine s_p2 ?_); dsimp only [List.set])
  | ((with_reducible refine s_p3 ?_); dsimp only [List.set])
  | with_reducible refine f_r1 ?_
  | with_reducible refine f_r2 ?_
  | with_reducible refine f_l ?_
  | with_reducible refine f_t ?_
  | with_reducible refine f_s ?_
  | with_reducible refine c_r1 ?_
  | with_reducible refine c_r2 ?_
  | with_reducible refine c_l ?_
  | with_reducible refine c_t ?_
  | with_reducible refine c_s ?_
  | with_reducible refine x_tst ?_
  | with_reducible refine x_tru ?_
  | with_reducible refine x_truB ?_
  | with_reducible refine x_bl2 ?_
  | with_reducible refine x_int ?_
  | with_reducible refine x_str ?_
  | with_reducible refine x_not ?_
  | with_reducible refine x_and ?_
  | with_reducible refine x_or ?_
  | with_reducible refine x_andV ?_
  | with_reducible refine x_orV ?_
  | with_reducible refine x_notV ?_
  | with_reducible refine x_if ?_
  | with_reducible refine x_yes ?_
  | with_reducible refine x_un ?_
  | with_reducible refine x_tup ?_
  | with_reducible refine x_lst ?_
  | with_reducible refine x_callK ?_
  | with_reducible refine x_callK0 ?_
  | with_reducible refine x_bm ?_
  | with_reducible refine x_bm0 ?_
  | with_reducible refine x_tyS ?_
  | with_reducible refine x_sl ?_
  | with_reducible refine x_nopart ?_
  | with_reducible refine x_part ?_
  | with_reducible refine x_fmt0 ?_
  | with_reducible refine x_fmt ?_
  | with_reducible refine x_chain ?_
  | with_reducible refine a_ii ?_
  | ((with_reducible refine sl_to ?rda ?rdb ?_); (case rda => walk_at "len"); (case rdb => walk_at "len"))
  | ((with_reducible refine sl_from ?rda ?rdb ?_); (case rda => walk_at "len"); (case rdb => walk_at "len"))
  | ((with_reducible refine sl_mid ?rda ?rdb ?rdc ?_); (case rda => walk_at "len"); (case rdb => walk_at "len"); (case rdc => walk_at "len"))
  | ((with_reducible refine a_SS ?rda ?_); (case rda => walk_at "len"))
  | ((with_reducible refine ln_S ?rda ?_); (case rda => walk_at "len"))
  | with_reducible refine e_SS ?_
  | with_reducible refine ne_SS ?_
  | with_reducible refine s_ii ?_
  | ((with_reducible refine md_ii ?rdc ?_); (case rdc => first | decide | assumption | omega))
  | with_reducible refine n_i ?_
  | with_reducible refine e_ii ?_
  | with_reducible refine e_bb ?_
  | with_reducible refine ne_ii ?_
  | with_reducible refine ne_bb ?_
  | with_reducible refine lt_ii ?_
  | with_reducible refine lt_ss ?_
  | with_reducible refine le_ii ?_
  | with_reducible refine gt_ii ?_
  | with_reducible refine gt_ss ?_
  | with_reducible refine ge_ii ?_
  | with_reducible refine e_ss ?_
  | with_reducible refine ne_ss ?_
  | with_reducible refine is_N ?_
  | with_reducible refine is_T ?_
  | with_reducible refine is_B ?_
  | with_reducible refine isn_N ?_
  | with_reducible refine isn_T ?_
  | with_reducible refine isn_B ?_
  | with_reducible refine in_s ?_
  | with_reducible refine nin_s ?_
  | with_reducible refine i_i ?_
  | with_reducible refine i_b ?_
  | with_reducible refine ab_i ?_
  | with_reducible refine mx_ii ?_
  | with_reducible refine mn_ii ?_
  | with_reducible refine ty_N ?_
  | with_reducible refine ty_B ?_
  | with_reducible refine ty_I ?_
  | with_reducible refine ty_S ?_
  | with_reducible refine ma_s ?_
  | with_reducible refine mp_s ?_
  | with_reducible refine mdg_s ?_
  | with_reducible refine mf_s ?_
  | with_reducible refine iteT ?_
  | with_reducible refine iteF ?_
  | with_reducible refine iteNt ?_
  | with_reducible refine iteNf ?_
  | with_reducible refine iteTd (by decide) ?_
  | with_reducible refine iteFd (by decide) ?_
  | with_reducible refine iteNd (by decide) ?_
  | with_reducible refine iteNdF (by decide) ?_
  | ((with_reducible refine iteFd ?rdn ?_); (case rdn => (intro rdz; cases rdz; done)))
  | ((with_reducible refine iteNdF ?rdn ?_); (case rdn => (intro rdz; cases rdz; done))))
local macro_rules | `(tactic| walk_at "rd") => `(tactic| (repeat walk_at "rd1"))
section
variable {P : Program} {w : World} {K : PySem.W.Frag} {mg : Str → Option Value} {base : Heap}
/-! the spring's making -/
def sp__law_spring (K : PySem.W.Frag) : Sp := fun vs H Q _ => ∃ (a : Addr) (ns : List Int), vs = [.ref a] ∧ SqL K H a (ns.map V.int) ∧ ns.length ≤ 63 ∧ ∀ s g H', H s = none → H g = none → SprAt H' s g → Same H H' → Q (.ref s) H'
theorem ok__law_spring (Y : Fx K mg) : FnOk P w K mg base CX0 1 Y.a__law_spring Y.fd__law_spring ["_law_script"] (sp__law_spring K) := by
  refine Y.F__law_spring.ok sc__law_spring (fun vs H Q E h => ?_) (fun cdv A outer st H vs Q E hr h => ?_)
  · obtain ⟨a, ns, rfl, _⟩ := h
    rfl
  · obtain ⟨a, ns, rfl, hS, hl, q⟩ := h
    refine ⟨_, b__law_spring Y hr, ?_⟩
    show t__law_spring K _ [some (.ref a), none, none, none] H
    unfold t__law_spring
    walk_at "rd"
    refine lcL_mk hS (fun D i H' => Same H H' ∧ ∃ gr : List Int, gr.length ≤ i ∧ H' D = some (.lst (gr.map V.int))) (fun D hD => ⟨same_upd hD, [], Nat.le_refl _, upd_same⟩) (fun D i H' hD _ hp => hp.1.seq hS) (fun D i x H' hD hx hp => ?_) (fun D H1 hD hp => ?_)
    · obtain ⟨hs, gr, hgl, hg⟩ := hp
      obtain ⟨z, hz, rfl⟩ := map_get hx
      refine ⟨rfl, ?_⟩
      walk_at "rd"
      refine pw_ii ⟨by decide, by decide, by decide⟩ ?_
      walk_at "rd"
      refine ite2' (fun e => ?_) (fun e => ?_)
      · walk_at "rd"
        refine pw_ii ⟨by decide, by decide, by decide⟩ ?_
        walk_at "rd"
        have hil : i < ns.length := (List.getElem?_eq_some_iff.mp hz).1
        refine ⟨_, hg, Nat.lt_of_le_of_lt (show (gr.map V.int).length ≤ 100 by rw [List.length_map]; omega) (by decide), same_mut hs hD, gr ++ [z - 10 ^ Int.toNat 18], ?_, ?_⟩
        · rw [List.length_append]
          exact Nat.succ_le_succ hgl
        · rw [upd_same, List.map_append]
          rfl
      · exact ⟨hs, gr, Nat.le_succ_of_le hgl, hg⟩
    · obtain ⟨hs, gr, hgl, hg⟩ := hp
      walk_at "rd"
      refine ln_l (hs.seq hS) ?_
      refine m_ii (.inl (.inl ⟨by decide, by decide⟩)) ?_
      walk_at "rd"
      rw [List.length_map] at hgl
      rw [List.length_map]
      refine forL_mk (hs.seq hS) (fun i σ H' => ∃ (y : Option V) (m : Int), σ = [some (.ref a), some (.ref D), y, some (.int m)] ∧ 0 ≤ m ∧ m < 2 ^ 62 ∧ H' = H1) ⟨none, _, rfl, by omega, by omega, rfl⟩ (fun i σ H' _ hp => by obtain ⟨y, m, _, _, _, rfl⟩ := hp; exact hs.seq hS) (fun i x σ H' hx hp => ?_) (fun σ H' hp => ?_)
      · obtain ⟨y, m, rfl, hm0, hm1, rfl⟩ := hp
        obtain ⟨z, hz, rfl⟩ := map_get hx
        walk_at "rd"
        refine m_ii (.inl (.inr (by decide))) ?_
        walk_at "rd"
        refine m_ii (.inl (.inr (by decide))) ?_
        walk_at "rd"
        refine ⟨_, _, rfl, Int.emod_nonneg _ (by decide), Int.lt_trans (Int.emod_lt_of_pos _ (by decide)) (by decide), rfl⟩
      · obtain ⟨y, m, rfl, hm0, hm1, rfl⟩ := hp
        walk_at "rd"
        refine ⟨by show 3 ≤ sizeLine; decide, fun s hsn => ?_⟩
        have hsH : H s = none := hs.free hsn
        refine q s D _ hsH hD ⟨gr, m, 0, upd_same, by rw [upd_ne (ne_of_none hg hsn)]; exact hg, hm0, hm1, by omega⟩ (same_new hs hsn)
/-! a drawn text -/
def allS : List Nat := [32, 33, 34, 35, 36, 38, 39, 40, 41, 42, 43, 44, 45, 46, 47, 48, 49, 50, 51, 52, 53, 54, 55, 56, 57, 58, 59, 60, 61, 62, 63, 64, 65, 66, 67, 68, 69, 70, 71, 72, 73, 74, 75, 76, 77, 78, 79, 80, 81, 82, 83, 84, 85, 86, 87, 88, 89, 90, 91, 92, 93, 94, 95, 96, 97, 98, 99, 100, 101, 102, 103, 104, 105, 106, 107, 108, 109, 110, 111, 112, 113, 114, 115, 116, 117, 118, 119, 120, 121, 122, 123, 124, 125, 126]
def sp__law_text (K : PySem.W.Frag) : Sp := fun vs H Q _ => ∃ (s g : Addr) (n : Nat), vs = [.ref s, .int n] ∧ SprAt H s g ∧ n ≤ 100000 ∧ ∀ l H', l.length = n → isT l = true → SprAt H' s g → Frm s g H H' → Q (.str (S l)) H'
theorem ok__law_text (Y : Fx K mg) : FnOk P w K mg base CX0 2 Y.a__law_text Y.fd__law_text ["_law_spring_here", "_law_size"] (sp__law_text K) := by
  refine Y.F__law_text.ok sc__law_text (fun vs H Q E h => ?_) (fun cdv A outer st H vs Q E hr h => ?_)
  · obtain ⟨s, g, n, rfl, _⟩ := h
    rfl
  · obtain ⟨s, g, n, rfl, hSp, hn, q⟩ := h
    refine ⟨_, b__law_text Y (ok__law_drop Y) hr, ?_⟩
    show t__law_text K _ _ [some (.ref s), some (.int n), none, none, none, none, none] H
    unfold t__law_text
    walk_at "rd"
    refine s_cut (fun σ' H' => ∃ sg : List Nat, σ' = [some (.ref s), some (.int n), some (.str (S sg)), none, none, none, none] ∧ isT sg = true ∧ 0 < sg.length ∧ sg.length ≤ 100 ∧ SprAt H' s g ∧ Frm s g H H') ?_ ?_
    · walk_at "rd"
      refine ⟨s, g, 4, rfl, hSp, by decide, by decide, fun r H1 h0 h1 hSp1 hF1 => ?_⟩
      walk_at "rd"
      refine ite2' (fun e => ?_) (fun e => ?_)
      · walk_at "rd"
        exact ⟨[48, 49, 50, 51, 52, 53, 54, 55, 56, 57, 43, 46, 43, 46, 48, 32], rfl, by decide, by decide, by decide, hSp1, hF1⟩
      · walk_at "rd"
        exact ⟨allS, rfl, by decide, by decide, by decide, hSp1, hF1⟩
    · rintro σ' H1 ⟨sg, rfl, hT, hl0, hl1, hSp1, hF1⟩
      walk_at "rd"
      refine ⟨s, g, 4, rfl, hSp1, by decide, by decide, fun r H2 h0 h1 hSp2 hF2 => ?_⟩
      walk_at "rd"
      refine lcR1_mk (by omega) (by omega) (fun D i H' => SprAt H' s g ∧ Frm s g H H' ∧ ∃ cs : List (List Nat), H' D = some (.lst ((cs.map S).map V.str)) ∧ cs.length = i ∧ (∀ c ∈ cs, c.length = 1) ∧ ∀ c ∈ cs, isT c = true) (fun D hD => ⟨hSp2.new hD, ((hF1.trans hF2).new hD), [], upd_same, rfl, (by intro _ h; cases h), (by intro _ h; cases h)⟩) (fun D i H' hD hi hp => ?_) (fun D H3 hD hp => ?_)
      · obtain ⟨hSp3, hF3, cs, hc, hcl, hc1, hc2⟩ := hp
        refine ⟨rfl, ?_⟩
        walk_at "rd"
        refine ⟨s, g, sg.length, rfl, hSp3, by omega, by omega, fun r2 H4 h2 h3 hSp4 hF4 => ?_⟩
        walk_at "rd"
        refine ix_SS h2 h3 (by omega) fun c hcc => ?_
        obtain ⟨o1, o2⟩ := hSp2.off hD
        have hc4 := hF4 D _ o1 o2 hc
        refine ⟨_, hc4, ?_, hSp4.keep o1 o2, ?_, cs ++ [[c]], ?_, ?_, ?_, ?_⟩
        · rw [List.length_map, List.length_map]
          exact Nat.lt_of_le_of_lt (show cs.length ≤ 100 by omega) (by decide)
        · intro x u e1 e2 e3
          have e4 := (hF3.trans hF4) x u e1 e2 e3
          have e5 : x ≠ D := by
            rintro rfl
            have e6 := (hF1.trans hF2) x u e1 e2 e3
            rw [hD] at e6
            cases e6
          rw [upd_ne e5]
          exact e4
        · rw [upd_same, List.map_append, List.map_append]
          rfl
        · rw [List.length_append, hcl]
          rfl
        · intro d hd
          rcases List.mem_append.mp hd with h | h
          · exact hc1 d h
          · rw [List.mem_singleton.mp h]; rfl
        · intro d hd
          rcases List.mem_append.mp hd with h | h
          · exact hc2 d h
          · rw [List.mem_singleton.mp h]; exact isT_get hT hcc
      · obtain ⟨hSp3, hF3, cs, hc, hcl, hc1, hc2⟩ := hp
        walk_at "rd"
        have hfl := flat_len hc1
        refine jn_0 (lst_of hc) (by omega) ?_
        have hfT := isT_flat hc2
        generalize cs.flatten = wd at hfl hfT
        walk_at "rd"
        refine m_SI (by omega) (by omega) (by rw [Int.toNat_natCast]; calc _ ≤ 4 * 100000 := Nat.mul_le_mul (by omega) hn
              _ ≤ 1000000 := by decide) ?_
        rw [Int.toNat_natCast]
        have hrl := repl_len n wd
        have hrT : isT (List.replicate n wd).flatten = true := isT_flat fun c hc => by rw [(List.mem_replicate.mp hc).2]; exact hfT
        have hrl1 : (List.replicate n wd).flatten.length ≤ 1000000 := by
          rw [hrl]
          calc _ ≤ 100000 * 10 := Nat.mul_le_mul hn (by omega)
            _ ≤ 1000000 := by decide
        have hrl2 : n ≤ (List.replicate n wd).flatten.length := by
          rw [hrl]
          exact Nat.le_mul_of_pos_right n (by omega)
        generalize (List.replicate n wd).flatten = rp at hrT hrl1 hrl2
        clear hrl
        walk_at "rd"
        rw [Int.toNat_natCast]
        have htl : (rp.take n).length = n := by rw [List.length_take]; omega
        have htT : isT (rp.take n) = true := isT_take n hrT
        generalize rp.take n = tx at htl htT
        refine ⟨s, g, n + 1, rfl, hSp3, by omega, by omega, fun r3 H4 h2 h3 hSp4 hF4 => ?_⟩
        walk_at "rd"
        refine ⟨s, g, sg.length, rfl, hSp4, by omega, by omega, fun r4 H5 h4 h5 hSp5 hF5 => ?_⟩
        walk_at "rd"
        refine ix_SS h4 h5 (by omega) fun c hcc => ?_
        walk_at "rd"
        refine q _ H5 ?_ ?_ hSp5 ((hF3.trans hF4).trans hF5)
        · simp only [List.length_append, List.length_take, List.length_drop, List.length_cons, List.length_nil]
          omega
        · refine isT_take _ ?_
          rw [isT_app, isT_app, isT_take _ htT, isT_get hT hcc, isT_drop _ htT]
          rfl
end
end My

set_option Elab.async false
set_option linter.all false
set_option maxRecDepth 100000
set_option maxHeartbeats 1000000
namespace My
open PySem PySem.Spec PyProof.Rows L2
local macro_rules | `(tactic| walk_at "len") => `(tactic| first | assumption | omega | decide | (simp only [List.length_append, List.length_take, List.length_drop, List.length_cons, List.length_nil, List.length_replicate]; omega))
local macro_rules | `(tactic| walk_at "side") => `(tactic| first | assumption | exact Nat.zero_le _ | decide | omega)
local macro_rules | `(tactic| walk_at "rd1") => `(tactic| first
  | with_reducible refine s_seq ?_
  | with_reducible refine x_gsub ?_
  | with_reducible refine s_asg ?_
  | ((with_reducible refine s_gn ?_); dsimp only [List.set])
  | ((with_reducible refine x_var (v := ?rdv) ?rdhv ?_); (case rdhv => rfl))
  | with_reducible refine x_c ?_
  | with_reducible refine x_op ?_
  | with_reducible refine x_cons ?_
  | with_reducible refine x_nil ?_
  | with_reducible refine x_cb ?_
  | with_reducible refine x_call ?_
  | with_reducible refine s_if ?_
  | with_reducible refine s_ret ?_
  | with_reducible refine s_retN ?_
  | with_reducible refine s_next ?_
  | with_reducible refine s_brk ?_
  | with_reducible refine s_cont ?_
  | with_reducible refine s_drop ?_
  | with_reducible refine s_par ?_
  | with_reducible refine s_par3 ?_
  | ((with_reducible refine s_p2 ?_); dsimp only [List.set])
  | ((with_reducible refine s_p3 ?_); dsimp only [List.set])
  | with_reducible refine f_r1 ?_
  | with_reducible refine f_r2 ?_
  | with_reducible refine f_l ?_
  | with_reducible refine f_t ?_
  | with_reducible refine f_s ?_
  | with_reducible refine c_r1 ?_
  | with_reducible refine c_r2 ?_
  | with_reducible refine c_l ?_
  | with_reducible refine c_t ?_
  | with_reducible refine c_s ?_
  | with_reducible refine x_tst ?_
  | with_reducible refine x_tru ?_
  | with_reducible refine x_truB ?_
  | with_reducible refine x_bl2 ?_
  | with_reducible refine x_int ?_
  | with_reducible refine x_str ?_
  | with_reducible refine x_not ?_
  | with_reducible refine x_and ?_
  | with_reducible refine x_or ?_
  | with_reducible refine x_andV ?_
  | with_reducible refine x_orV ?_
  | with_reducible refine x_notV ?_
  | with_reducible refine x_if ?_
  | with_reducible refine x_yes ?_
  | with_reducible refine x_un ?_
  | with_reducible refine x_tup ?_
  | with_reducible refine x_lst ?_
  | with_reducible refine x_callK ?_
  | with_reducible refine x_callK0 ?_
  | with_reducible refine x_bm ?_
  | with_reducible refine x_bm0 ?_
  | with_reducible refine x_tyS ?_
  | with_reducible refine x_sl ?_
  | with_reducible refine x_nopart ?_
  | with_reducible refine x_part ?_
  | with_reducible refine x_fmt0 ?_
  | with_reducible refine x_fmt ?_
  | with_reducible refine x_chain ?_
  | with_reducible refine a_ii ?_
  | ((with_reducible refine sl_to ?rda ?rdb ?_); (case rda => walk_at "len"); (case rdb => walk_at "len"))
  | ((with_reducible refine sl_from ?rda ?rdb ?_); (case rda => walk_at "len"); (case rdb => walk_at "len"))
  | ((with_reducible refine sl_mid ?rda ?rdb ?rdc ?_); (case rda => walk_at "len"); (case rdb => walk_at "len"); (case rdc => walk_at "len"))
  | ((with_reducible refine a_SS ?rda ?_); (case rda => walk_at "len"))
  | ((with_reducible refine ln_S ?rda ?_); (case rda => walk_at "len"))
  | with_reducible refine e_SS ?_
  | with_reducible refine ne_SS ?_
  | with_reducible refine s_ii ?_
  | ((with_reducible refine md_ii ?rdc ?_); (case rdc => first | decide | assumption | omega))
  | with_reducible refine n_i ?_
  | with_reducible refine e_ii ?_
  | with_reducible refine e_bb ?_
  | with_reducible refine ne_ii ?_
  | with_reducible refine ne_bb ?_
  | with_reducible refine lt_ii ?_
  | with_reducible refine lt_ss ?_
  | with_reducible refine le_ii ?_
  | with_reducible refine gt_ii ?_
  | with_reducible refine gt_ss ?_
  | with_reducible refine ge_ii ?_
  | with_reducible refine e_ss ?_
  | with_reducible refine ne_ss ?_
  | with_reducible refine is_N ?_
  | with_reducible refine is_T ?_
  | with_reducible refine is_B ?_
  | with_reducible refine isn_N ?_
  | with_reducible refine isn_T ?_
  | with_reducible refine isn_B ?_
  | with_reducible refine in_s ?_
  | with_reducible refine nin_s ?_
  | with_reducible refine i_i ?_
  | with_reducible refine i_b ?_
  | with_reducible refine ab_i ?_
  | with_reducible refine mx_ii ?_
  | with_reducible refine mn_ii ?_
  | with_reducible refine ty_N ?_
  | with_reducible refine ty_B ?_
  | with_reducible refine ty_I ?_
  | with_reducible refine ty_S ?_
  | with_reducible refine ma_s ?_
  | with_reducible refine mp_s ?_
  | with_reducible refine mdg_s ?_
  | with_reducible refine mf_s ?_
  | with_reducible refine iteT ?_
  | with_reducible refine iteF ?_
  | with_reducible refine iteNt ?_
  | with_reducible refine iteNf ?_
  | with_reducible refine iteTd (by decide) ?_
  | with_reducible refine iteFd (by decide) ?_
  | with_reducible refine iteNd (by decide) ?_
  | with_reducible refine iteNdF (by decide) ?_
  | ((with_reducible refine iteFd ?rdn ?_); (case rdn => (intro rdz; cases rdz; done)))
  | ((with_reducible refine iteNdF ?rdn ?_); (case rdn => (intro rdz; cases rdz; done))))
local macro_rules | `(tactic| walk_at "rd") => `(tactic| (repeat walk_at "rd1"))
section
variable {P : Program} {w : World} {K : PySem.W.Frag} {mg : Str → Option Value} {base : Heap}
/-! the law's own judge of two values that are alike -/
def kinds6 (d : PyData) : List Bool := [isBo d, isIn d, isSt d] ++ [isTu d, isLi d, isNo d]
def sp__law_kinds (K : PySem.W.Frag) : Sp := fun vs H Q _ => ∃ (x : V) (d : PyData), vs = [x] ∧ Dp K H x d ∧ ∀ p H', Same H H' → H' p = some (.lst ((kinds6 d).map V.bl)) → Q (.ref p) H'
theorem ok__law_kinds (Y : Fx K mg) : FnOk P w K mg base CX0 1 Y.a__law_kinds Y.fd__law_kinds ["_law_thing"] (sp__law_kinds K) := by
  refine Y.F__law_kinds.ok sc__law_kinds (fun vs H Q E h => ?_) (fun cdv A outer st H vs Q E hr h => ?_)
  · obtain ⟨x, d, rfl, _⟩ := h
    rfl
  · obtain ⟨x, d, rfl, hd, q⟩ := h
    refine ⟨_, b__law_kinds Y hr, ?_⟩
    show t__law_kinds K _ [some x, none] H
    unfold t__law_kinds
    walk_at "rd"
    refine isi_d hd (kit_bo hd) ?_
    walk_at "rd"
    refine isi_d hd (kit_in hd) ?_
    walk_at "rd"
    refine isi_d hd (kit_st hd) ?_
    walk_at "rd"
    refine ⟨by show 3 ≤ sizeLine; decide, fun p hp => ?_⟩
    have hd2 := dp_mono (same_upd (o := .lst [V.bl (isBo d), V.bl (isIn d), V.bl (isSt d)]) hp) d x hd
    walk_at "rd"
    refine isi_d hd2 (kit_tu hd2) ?_
    walk_at "rd"
    refine isi_d hd2 (kit_li hd2) ?_
    walk_at "rd"
    rw [non_d hd2]
    refine ⟨by show 3 ≤ sizeLine; decide, fun p2 hp2 => ?_⟩
    refine a_ll (by rw [upd_ne (Ne.symm (ne_new upd_same hp2))]; exact upd_same) upd_same (by show 6 ≤ sizeLine; decide) fun p3 hp3 => ?_
    exact q p3 _ (same_new (same_new (same_upd hp) hp2) hp3) upd_same
theorem dp_kinds {H : Hp} {p : Addr} {d : PyData} (h : H p = some (.lst ((kinds6 d).map V.bl))) : Dp K H (.ref p) (.list ((kinds6 d).map PyData.bool)) := dp_bools _ (lst_of h)
theorem shaped_kinds (d : PyData) : SeqAt.shaped (.list ((kinds6 d).map PyData.bool)) = true := by
  have h : ∀ a b c e f g : Bool, SeqAt.shaped (.list (([a, b, c] ++ [e, f, g]).map PyData.bool)) = true := by decide
  exact h _ _ _ _ _ _
def spA (F : PyData → Prop) (K : PySem.W.Frag) : Sp := fun vs H Q _ => ∃ (x y : V) (d : PyData), vs = [x, y] ∧ Dp K H x d ∧ Dp K H y d ∧ F d ∧ ∀ H', Same H H' → Q (.bl true) H'
theorem alike_step (Y : Fx K mg) {n : Nat} (hn : 1 ≤ n) (F : PyData → Prop) (G : FnOk P w K mg base CX0 n Y.a__law_alike Y.fd__law_alike ["_law_found", "_law_due_here"] (spA F K)) :
    FnOk P w K mg base CX0 (n + 1) Y.a__law_alike Y.fd__law_alike ["_law_found", "_law_due_here"] (spA (Up F) K) := by
  refine Y.F__law_alike.ok sc__law_alike (fun vs H Q E h => ?_) (fun cdv A outer st H vs Q E hr h => ?_)
  · obtain ⟨x, y, d, rfl, _⟩ := h
    rfl
  · obtain ⟨x, y, d, rfl, hx, hy, hF, q⟩ := h
    refine ⟨_, b__law_alike Y G (ok__law_kinds Y) hn hr, ?_⟩
    show t__law_alike K _ _ _ [some x, some y, none] H
    unfold t__law_alike
    walk_at "rd"
    refine ⟨x, d, rfl, hx, fun p1 H1 hS1 h1 => ?_⟩
    walk_at "rd"
    refine ⟨y, d, rfl, dp_mono hS1 d y hy, fun p2 H2 hS2 h2 => ?_⟩
    refine ne_d (dp_kinds (hS2 _ _ h1)) (dp_kinds h2) (shaped_kinds d) (shaped_kinds d) ?_
    rw [eqv_same (shaped_kinds d)]
    walk_at "rd"
    refine ⟨by show 2 ≤ sizeLine; decide, fun p3 hp3 => ?_⟩
    walk_at "rd"
    have hS3 := same_new (hS1.trans hS2) hp3 (o := .tup [V.ty "tuple", V.ty "list"])
    have hx3 := dp_mono hS3 d x hx
    have hy3 := dp_mono hS3 d y hy
    refine isi_d2 hy3 upd_same (kit_tu hy3) (kit_li hy3) rfl ?_
    generalize upd H2 p3 (.tup [V.ty "tuple", V.ty "list"]) = H3 at hS3 hx3 hy3
    have seq : ∀ (ds : List PyData) (px py : Addr) (vx vy : List V), ds.length ≤ 100000 → (∀ e ∈ ds, F e) → SqX K H3 px vx → SqX K H3 py vy → DpAll K H3 vx ds → DpAll K H3 vy ds → x = .ref px → y = .ref py →
        tRet (tAndV (tOp (rEQ K) (tCB (rLEN K) (tCons (tVar 0) tNil)) (tCB (rLEN K) (tCons (tVar 1) tNil))) (tCB (rAll K) (tCons (tLc (iRng1 (tCons (tCB (rLEN K) (tCons (tVar 1) tNil)) tNil)) (gName 2) tYes (tCall (spA F K) [] E0 (tCons (tOp (rIX K) (tVar 0) (tVar 2)) (tCons (tOp (rIX K) (tVar 1) (tVar 2)) tNil))) [2]) tNil)))
          { nx := tRet (tOp (rEQ K) (tVar 0) (tVar 1)) { nx := fun _ H' => Q .non H', rt := Q }, rt := Q } [some x, some y, none] H3 := by
      rintro ds px py vx vy hl hFe hsx hsy hax hay rfl rfl
      have lx := dpAll_len hax
      have ly := dpAll_len hay
      walk_at "rd"
      refine ln_X hsx ?_
      walk_at "rd"
      refine ln_X hsy ?_
      rw [lx, ly]
      walk_at "rd"
      refine iteTd rfl ?_
      walk_at "rd"
      refine ln_X hsy ?_
      walk_at "rd"
      rw [ly]
      refine lcR1_mk (by omega) (by omega) (fun D i H' => Same H3 H' ∧ H' D = some (.lst ((List.replicate i true).map V.bl))) (fun D hD => ⟨same_upd hD, upd_same⟩) (fun D i H' hD hi hp => ?_) (fun D H' hD hp => ?_)
      · obtain ⟨hs, hd⟩ := hp
        rw [Int.toNat_natCast] at hi
        obtain ⟨v1, e1, d1⟩ := dpAll_get hax hi
        obtain ⟨v2, e2, d2⟩ := dpAll_get hay hi
        refine ⟨rfl, ?_⟩
        walk_at "rd"
        refine ix_X (hsx.mono hs) (atI_nat e1) ?_
        walk_at "rd"
        refine ix_X (hsy.mono hs) (atI_nat e2) ?_
        walk_at "rd"
        refine ⟨v1, v2, ds[i], rfl, dp_mono hs _ _ d1, dp_mono hs _ _ d2, hFe _ (List.getElem_mem hi), fun H4 hS4 => ?_⟩
        refine ⟨_, hS4 _ _ hd, ?_, same_mut (hs.trans hS4) hD, ?_⟩
        · rw [List.length_map, List.length_replicate]
          exact Nat.lt_of_le_of_lt (show i ≤ 100000 by omega) (by decide)
        · rw [upd_same, List.replicate_succ', List.map_append]
          rfl
      · obtain ⟨hs, hd⟩ := hp
        walk_at "rd"
        refine al_b (lst_of hd) ?_
        rw [show (List.replicate (Int.toNat ds.length) true).all id = true by simp]
        exact q H' (hS3.trans hs)
    have flat : SeqAt.shaped d = true → isTu d = false → isLi d = false →
        if (isTu d || isLi d) = true then
        tRet (tAndV (tOp (rEQ K) (tCB (rLEN K) (tCons (tVar 0) tNil)) (tCB (rLEN K) (tCons (tVar 1) tNil))) (tCB (rAll K) (tCons (tLc (iRng1 (tCons (tCB (rLEN K) (tCons (tVar 1) tNil)) tNil)) (gName 2) tYes (tCall (spA F K) [] E0 (tCons (tOp (rIX K) (tVar 0) (tVar 2)) (tCons (tOp (rIX K) (tVar 1) (tVar 2)) tNil))) [2]) tNil)))
          { nx := tRet (tOp (rEQ K) (tVar 0) (tVar 1)) { nx := fun _ H' => Q .non H', rt := Q }, rt := Q } [some x, some y, none] H3
        else tNext { nx := tRet (tOp (rEQ K) (tVar 0) (tVar 1)) { nx := fun _ H' => Q .non H', rt := Q }, rt := Q } [some x, some y, none] H3 := by
      intro hsh e1 e2
      rw [e1, e2]
      show if false = true then _ else tNext _ _ _
      walk_at "rd"
      refine e_d hx3 hy3 hsh hsh ?_
      rw [eqv_same hsh]
      exact q H3 hS3
    refine x_truB ?_
    cases hx3 with
    | non => exact flat hF rfl rfl
    | bl b => exact flat hF rfl rfl
    | int i => exact flat hF rfl rfl
    | str z => exact flat hF rfl rfl
    | lst hs ha =>
      cases hy3 with
      | lst hs' ha' => exact iteT (seq _ _ _ _ _ hF.1 hF.2 (.inl hs) (.inl hs') ha ha' rfl rfl)
    | tup hs ha =>
      cases hy3 with
      | tup hs' ha' => exact iteT (seq _ _ _ _ _ hF.1 hF.2 (.inr hs) (.inr hs') ha ha' rfl rfl)
theorem ok__law_alike (Y : Fx K mg) : ∀ n : Nat, FnOk P w K mg base CX0 (n + 2) Y.a__law_alike Y.fd__law_alike ["_law_found", "_law_due_here"] (spA (Fine n) K)
  | 0 => alike_step Y (Nat.le_refl 1) (fun _ => False) ⟨fun vs H Q E h => by obtain ⟨x, y, d, rfl, _⟩ := h; rfl, fun A outer s H args us vs Q E hr he hb hv hs => by obtain ⟨x, y, d, rfl, _, _, z, _⟩ := hs; exact z.elim⟩
  | n + 1 => alike_step Y (by omega) (Fine n) (ok__law_alike Y n)
end
end My

set_option Elab.async false
set_option linter.all false
set_option maxRecDepth 100000
set_option maxHeartbeats 1000000
namespace My
open PySem PySem.Spec PyProof.Rows L2
local macro_rules | `(tactic| walk_at "len") => `(tactic| first | assumption | omega | decide | (simp only [List.length_append, List.length_take, List.length_drop, List.length_cons, List.length_nil, List.length_replicate]; omega))
local macro_rules | `(tactic| walk_at "side") => `(tactic| first | assumption | exact Nat.zero_le _ | decide | omega)
local macro_rules | `(tactic| walk_at "rd1") => `(tactic| first
  | with_reducible refine s_seq ?_
  | with_reducible refine x_gsub ?_
  | with_reducible refine s_asg ?_
  | ((with_reducible refine s_gn ?_); dsimp only [List.set])
  | ((with_reducible refine x_var (v := ?rdv) ?rdhv ?_); (case rdhv => rfl))
  | with_reducible refine x_c ?_
  | with_reducible refine x_op ?_
  | with_reducible refine x_cons ?_
  | with_reducible refine x_nil ?_
  | with_reducible refine x_cb ?_
  | with_reducible refine x_call ?_
  | with_reducible refine x_callS ?_
  | with_reducible refine x_revT ?_
  | with_reducible refine x_dget ?_
  | with_reducible refine x_makeS ?_
  | with_reducible refine x_make ?_
  | with_reducible refine x_makeKS ?_
  | with_reducible refine x_methS ?_
  | with_reducible refine x_meth ?_
  | with_reducible refine x_methK ?_
  | with_reducible refine x_fld ?_
  | with_reducible refine s_fld ?_
  | with_reducible refine f_rt ?_
  | with_reducible refine f_zm ?_
  | with_reducible refine c_zm ?_
  | with_reducible refine x_din ?_
  | with_reducible refine x_dnotin ?_
  | with_reducible refine s_dput ?_
  | with_reducible refine x_dnew ?_
  | with_reducible refine s_try ?_
  | with_reducible refine s_raise ?_
  | with_reducible refine s_if ?_
  | with_reducible refine s_ret ?_
  | with_reducible refine s_retN ?_
  | with_reducible refine s_next ?_
  | with_reducible refine s_brk ?_
  | with_reducible refine s_cont ?_
  | with_reducible refine s_drop ?_
  | with_reducible refine s_par ?_
  | with_reducible refine s_par3 ?_
  | ((with_reducible refine s_p2 ?_); dsimp only [List.set])
  | ((with_reducible refine s_p3 ?_); dsimp only [List.set])
  | with_reducible refine f_r1 ?_
  | with_reducible refine f_r2 ?_
  | with_reducible refine f_l ?_
  | with_reducible refine f_t ?_
  | with_reducible refine f_s ?_
  | with_reducible refine c_r1 ?_
  | with_reducible refine c_r2 ?_
  | with_reducible refine c_l ?_
  | with_reducible refine c_t ?_
  | with_reducible refine c_s ?_
  | with_reducible refine x_tst ?_
  | with_reducible refine x_tru ?_
  | with_reducible refine x_truB ?_
  | with_reducible refine x_bl2 ?_
  | with_reducible refine x_int ?_
  | with_reducible refine x_str ?_
  | with_reducible refine x_not ?_
  | with_reducible refine x_and ?_
  | with_reducible refine x_or ?_
  | with_reducible refine x_andV ?_
  | with_reducible refine x_orV ?_
  | with_reducible refine x_notV ?_
  | with_reducible refine x_if ?_
  | with_reducible refine x_yes ?_
  | with_reducible refine x_un ?_
  | with_reducible refine x_tup ?_
  | with_reducible refine x_lst ?_
  | with_reducible refine x_callK ?_
  | with_reducible refine x_callK0 ?_
  | with_reducible refine x_bm ?_
  | with_reducible refine x_bm0 ?_
  | with_reducible refine x_tyS ?_
  | with_reducible refine x_sl ?_
  | with_reducible refine x_nopart ?_
  | with_reducible refine x_part ?_
  | with_reducible refine x_fmt0 ?_
  | with_reducible refine x_gc ?_
  | with_reducible refine x_gz ?_
  | with_reducible refine x_ckw ?_
  | with_reducible refine x_fmt ?_
  | with_reducible refine x_chain ?_
  | with_reducible refine a_ii ?_
  | ((with_reducible refine sl_to ?rda ?rdb ?_); (case rda => walk_at "len"); (case rdb => walk_at "len"))
  | ((with_reducible refine sl_from ?rda ?rdb ?_); (case rda => walk_at "len"); (case rdb => walk_at "len"))
  | ((with_reducible refine sl_mid ?rda ?rdb ?rdc ?_); (case rda => walk_at "len"); (case rdb => walk_at "len"); (case rdc => walk_at "len"))
  | ((with_reducible refine a_SS ?rda ?_); (case rda => walk_at "len"))
  | ((with_reducible refine ln_S ?rda ?_); (case rda => walk_at "len"))
  | with_reducible refine e_SS ?_
  | with_reducible refine ne_SS ?_
  | with_reducible refine s_ii ?_
  | ((with_reducible refine md_ii ?rdc ?_); (case rdc => first | decide | assumption | omega))
  | with_reducible refine n_i ?_
  | with_reducible refine e_ii ?_
  | with_reducible refine e_bb ?_
  | with_reducible refine ne_ii ?_
  | with_reducible refine ne_bb ?_
  | with_reducible refine lt_ii ?_
  | with_reducible refine lt_ss ?_
  | with_reducible refine le_ii ?_
  | with_reducible refine le_ss ?_
  | with_reducible refine gt_ii ?_
  | with_reducible refine gt_ss ?_
  | with_reducible refine ge_ii ?_
  | with_reducible refine e_ss ?_
  | with_reducible refine ne_ss ?_
  | with_reducible refine is_N ?_
  | with_reducible refine is_T ?_
  | with_reducible refine is_B ?_
  | with_reducible refine isn_N ?_
  | with_reducible refine isn_T ?_
  | with_reducible refine isn_B ?_
  | with_reducible refine in_s ?_
  | with_reducible refine nin_s ?_
  | with_reducible refine i_i ?_
  | with_reducible refine i_b ?_
  | with_reducible refine ab_i ?_
  | with_reducible refine mx_ii ?_
  | with_reducible refine mn_ii ?_
  | with_reducible refine ty_N ?_
  | with_reducible refine ty_B ?_
  | with_reducible refine ty_I ?_
  | with_reducible refine ty_S ?_
  | with_reducible refine ma_s ?_
  | with_reducible refine mp_s ?_
  | with_reducible refine mdg_s ?_
  | with_reducible refine mal_s ?_
  | with_reducible refine mlo_s ?_
  | with_reducible refine c_er ?_
  | with_reducible refine c_es ?_
  | with_reducible refine mf_s ?_
  | with_reducible refine iteT ?_
  | with_reducible refine iteF ?_
  | with_reducible refine iteNt ?_
  | with_reducible refine iteNf ?_
  | with_reducible refine iteTd (by decide) ?_
  | with_reducible refine iteFd (by decide) ?_
  | with_reducible refine iteNd (by decide) ?_
  | with_reducible refine iteNdF (by decide) ?_
  | ((with_reducible refine iteFd ?rdn ?_); (case rdn => (intro rdz; cases rdz; done)))
  | ((with_reducible refine iteNdF ?rdn ?_); (case rdn => (intro rdz; cases rdz; done))))
local macro_rules | `(tactic| walk_at "rd") => `(tactic| (repeat walk_at "rd1"))
section
variable {P : Program} {w : World} {K : PySem.W.Frag} {mg : Str → Option Value} {base : Heap}
def isTxD : PyData → Bool
  | .str z => isT z.cps.toList
  | _ => false
def sp_is_text (K : PySem.W.Frag) : Sp := fun vs H Q _ => ∃ (x : V) (d : PyData), vs = [x] ∧ Dp K H x d ∧ Q (.bl (isTxD d)) H
theorem ok_is_text (Y : Fx K mg) : FnOk P w K mg base CX0 1 Y.a_is_text Y.fd_is_text ["value"] (sp_is_text K) := by
  refine Y.F_is_text.ok sc_is_text (fun vs H Q E h => ?_) (fun cdv A outer s H vs Q E hr h => ?_)
  · obtain ⟨x, d, rfl, _⟩ := h
    rfl
  · obtain ⟨x, d, rfl, hx, q⟩ := h
    refine ⟨_, b_is_text Y hr, ?_⟩
    show t_is_text K _ [some x] H
    unfold t_is_text
    walk_at "rd"
    refine ty_D hx ?_
    cases hx with
    | str z =>
      obtain ⟨l, rfl⟩ : ∃ l, z = S l := ⟨_, S_eta z⟩
      have q' : Q (.bl (isT l)) H := q
      walk_at "rd"
      refine iteTd rfl ?_
      walk_at "rd"
      rw [← is_text_eq l] at q'
      refine ite2' (fun e => ?_) (fun e => ?_)
      · walk_at "rd"
        rw [e] at q'
        exact q'
      · rw [e] at q'
        exact q'
    | non =>
      walk_at "rd"
      exact q
    | bl b =>
      walk_at "rd"
      refine iteFd (show ¬ (("bool" : String) = "str") by decide) ?_
      exact q
    | int i =>
      walk_at "rd"
      refine iteFd (show ¬ (("int" : String) = "str") by decide) ?_
      exact q
    | lst h _ =>
      walk_at "rd"
      refine iteFd (show ¬ (("list" : String) = "str") by decide) ?_
      exact q
    | tup h _ =>
      walk_at "rd"
      refine iteFd (show ¬ (("tuple" : String) = "str") by decide) ?_
      exact q
def isNumD (lo hi : Int) : PyData → Bool
  | .int i => decide (lo ≤ i) && decide (i ≤ hi)
  | _ => false
def sp_is_number (K : PySem.W.Frag) : Sp := fun vs H Q _ => ∃ (x : V) (d : PyData) (lo hi : Int), vs = [x, .int lo, .int hi] ∧ Dp K H x d ∧ Q (.bl (isNumD lo hi d)) H
theorem ok_is_number (Y : Fx K mg) : FnOk P w K mg base CX0 1 Y.a_is_number Y.fd_is_number ["value", "low", "high"] (sp_is_number K) := by
  refine Y.F_is_number.ok sc_is_number (fun vs H Q E h => ?_) (fun cdv A outer s H vs Q E hr h => ?_)
  · obtain ⟨x, d, lo, hi, rfl, _⟩ := h
    rfl
  · obtain ⟨x, d, lo, hi, rfl, hx, q⟩ := h
    refine ⟨_, b_is_number Y hr, ?_⟩
    show t_is_number K _ [some x, some (.int lo), some (.int hi)] H
    unfold t_is_number
    walk_at "rd"
    refine ty_D hx ?_
    cases hx with
    | int i =>
      have q' : Q (.bl (decide (lo ≤ i) && decide (i ≤ hi))) H := q
      walk_at "rd"
      refine iteTd rfl ?_
      walk_at "rd"
      refine ite2' (fun e => ?_) (fun e => ?_)
      · rw [e, Bool.true_and] at q'
        walk_at "rd"
        exact q'
      · rw [e, Bool.false_and] at q'
        exact q'
    | non =>
      walk_at "rd"
      exact q
    | bl b =>
      walk_at "rd"
      refine iteFd (show ¬ (("bool" : String) = "int") by decide) ?_
      exact q
    | str z =>
      walk_at "rd"
      refine iteFd (show ¬ (("str" : String) = "int") by decide) ?_
      exact q
    | lst h _ =>
      walk_at "rd"
      refine iteFd (show ¬ (("list" : String) = "int") by decide) ?_
      exact q
    | tup h _ =>
      walk_at "rd"
      refine iteFd (show ¬ (("tuple" : String) = "int") by decide) ?_
      exact q
/-! blocks -/
def isBkD (n : Nat) : PyData → Bool
  | .str z => isT z.cps.toList && decide (z.cps.toList.length ≤ n)
  | _ => false
def sp_is_block (K : PySem.W.Frag) : Sp := fun vs H Q _ => ∃ (x : V) (d : PyData) (n : Nat), vs = [x, .int n] ∧ Dp K H x d ∧ (∀ l, d = .str (S l) → l.length ≤ 300000) ∧ Q (.bl (isBkD n d)) H
theorem ok_is_block (Y : Fx K mg) : FnOk P w K mg base CX0 2 Y.a_is_block Y.fd_is_block ["value", "signs"] (sp_is_block K) := by
  refine Y.F_is_block.ok sc_is_block (fun vs H Q E h => ?_) (fun cdv A outer s H vs Q E hr h => ?_)
  · obtain ⟨x, d, n, rfl, _⟩ := h
    rfl
  · obtain ⟨x, d, n, rfl, hx, hl, q⟩ := h
    refine ⟨_, b_is_block Y (ok_is_text Y) hr, ?_⟩
    show t_is_block K _ _ [some x, some (.int n)] H
    unfold t_is_block
    walk_at "rd"
    refine ⟨x, d, rfl, hx, ?_⟩
    cases hx with
    | str z =>
      obtain ⟨l, rfl⟩ : ∃ l, z = S l := ⟨_, S_eta z⟩
      have hl' := hl l rfl
      have q' : Q (.bl (isT l && decide (l.length ≤ n))) H := q
      show ∃ k, V.bl (isT l) = .bl k ∧ _
      walk_at "rd"
      refine ite2' (fun e => ?_) (fun e => ?_)
      · rw [e, Bool.true_and] at q'
        walk_at "rd"
        rw [show decide ((l.length : Int) ≤ (n : Int)) = decide (l.length ≤ n) from decide_eq_decide.mpr (by omega)]
        exact q'
      · rw [e, Bool.false_and] at q'
        exact q'
    | non => walk_at "rd"; exact q
    | bl b => walk_at "rd"; exact q
    | int i => walk_at "rd"; exact q
    | lst h _ => walk_at "rd"; exact q
    | tup h _ => walk_at "rd"; exact q
def sp_check_index (x : Addr) (K : PySem.W.Frag) : Sp := fun vs H Q E => ∃ (v : V) (d : PyData) (m : Nat), vs = [v, .int m] ∧ Dp K H v d ∧ (isNumD 0 ((m : Int) - 1) d = true → Q .non H) ∧ (isNumD 0 ((m : Int) - 1) d = false → E (.ref x) none H)
theorem ok_check_index (Y : Fx K mg) : FnOk P w K mg base (L2.CX P w) 2 Y.a_check_index Y.fd_check_index ["index", "many"] (sp_check_index Y.x_InvalidIndex K) := by
  refine Y.F_check_index.okX sc_check_index (fun vs H Q E h => ?_) (fun cdv A outer s H vs Q E hr h => ?_)
  · obtain ⟨v, d, m, rfl, _⟩ := h
    rfl
  · obtain ⟨v, d, m, rfl, hv, q, e⟩ := h
    refine ⟨_, b_check_index Y (ok_is_number Y) hr, ?_⟩
    show t_check_index K Y E _ _ [some v, some (.int m)] H
    unfold t_check_index
    walk_at "rd"
    refine ⟨v, d, 0, (m : Int) - 1, rfl, hv, ?_⟩
    walk_at "rd"
    cases ht : isNumD 0 ((m : Int) - 1) d with
    | false =>
      walk_at "rd"
      exact e ht
    | true =>
      refine iteNt ?_
      exact q ht
def sp_check_block (x : Addr) (K : PySem.W.Frag) : Sp := fun vs H Q E => ∃ (v : V) (d : PyData) (n : Nat), vs = [v, .int n] ∧ Dp K H v d ∧ (∀ l, d = .str (S l) → l.length ≤ 300000) ∧ (isBkD n d = true → Q .non H) ∧ (isBkD n d = false → E (.ref x) none H)
theorem ok_check_block (Y : Fx K mg) : FnOk P w K mg base (L2.CX P w) 3 Y.a_check_block Y.fd_check_block ["block", "signs"] (sp_check_block Y.x_InvalidBlock K) := by
  refine Y.F_check_block.okX sc_check_block (fun vs H Q E h => ?_) (fun cdv A outer s H vs Q E hr h => ?_)
  · obtain ⟨v, d, n, rfl, _⟩ := h
    rfl
  · obtain ⟨v, d, n, rfl, hv, hl, q, e⟩ := h
    refine ⟨_, b_check_block Y (ok_is_block Y) hr, ?_⟩
    show t_check_block K Y E _ _ [some v, some (.int n)] H
    unfold t_check_block
    walk_at "rd"
    refine ⟨v, d, n, rfl, hv, hl, ?_⟩
    walk_at "rd"
    cases ht : isBkD n d with
    | false =>
      walk_at "rd"
      exact e ht
    | true =>
      refine iteNt ?_
      exact q ht
def sp_check_signs (K : PySem.W.Frag) : Sp := fun vs H Q _ => ∃ n : Int, vs = [.int n] ∧ 100 ≤ n ∧ n ≤ 1000 ∧ Q .non H
theorem ok_check_signs (Y : Fx K mg) : FnOk P w K mg base CX0 2 Y.a_check_signs Y.fd_check_signs ["signs"] (sp_check_signs K) := by
  refine Y.F_check_signs.ok sc_check_signs (fun vs H Q E h => ?_) (fun cdv A outer s H vs Q E hr h => ?_)
  · obtain ⟨n, rfl, _⟩ := h
    rfl
  · obtain ⟨n, rfl, h0, h1, q⟩ := h
    refine ⟨_, b_check_signs Y (ok_is_number Y) hr, ?_⟩
    show t_check_signs K _ _ [some (.int n)] H
    unfold t_check_signs
    walk_at "rd"
    refine ⟨_, _, _, _, rfl, .int n, ?_⟩
    show ∃ k, TruV K (.bl (decide (100 ≤ n) && decide (n ≤ 1000))) H k ∧ _
    rw [decide_eq_true h0, decide_eq_true h1]
    show ∃ k, TruV K (.bl true) H k ∧ _
    walk_at "rd"
    exact q
def sp_check_from (K : PySem.W.Frag) : Sp := fun vs H Q _ => ∃ n m : Int, vs = [.int n, .int m] ∧ m ≤ n ∧ Q .non H
theorem ok_check_from (Y : Fx K mg) : FnOk P w K mg base CX0 1 Y.a_check_from Y.fd_check_from ["value", "low"] (sp_check_from K) := by
  refine Y.F_check_from.ok sc_check_from (fun vs H Q E h => ?_) (fun cdv A outer s H vs Q E hr h => ?_)
  · obtain ⟨n, m, rfl, _⟩ := h
    rfl
  · obtain ⟨n, m, rfl, h0, q⟩ := h
    refine ⟨_, b_check_from Y hr, ?_⟩
    show t_check_from K _ [some (.int n), some (.int m)] H
    unfold t_check_from
    walk_at "rd"
    refine iteFd (show ¬ (n < m) by omega) ?_
    walk_at "rd"
    exact q
theorem tv_get {ls : List (List Nat)} {i : Nat} {x : V} (h : (tv ls)[i]? = some x) : ∃ l, ls[i]? = some l ∧ x = .str (S l) := by
  unfold tv at h
  rw [List.getElem?_map] at h
  cases e : ls[i]? with
  | none => rw [e] at h; cases h
  | some z =>
    rw [e] at h
    exact ⟨z, rfl, (Option.some.inj h).symm⟩
def Blk (n : Nat) (ls : List (List Nat)) : Prop := ∀ l ∈ ls, isT l = true ∧ l.length ≤ n
def sp_check_image (K : PySem.W.Frag) : Sp := fun vs H Q _ => ∃ (p : Addr) (ls : List (List Nat)) (n : Nat), vs = [.ref p, .int n] ∧ SqT K H p (tv ls) ∧ 4 ≤ ls.length ∧ ls.length ≤ 200 ∧ n ≤ 1000 ∧ Blk n ls ∧ ∀ H', Same H H' → Q .non H'
theorem ok_check_image (Y : Fx K mg) : FnOk P w K mg base CX0 3 Y.a_check_image Y.fd_check_image ["image", "signs"] (sp_check_image K) := by
  refine Y.F_check_image.ok sc_check_image (fun vs H Q E h => ?_) (fun cdv A outer s H vs Q E hr h => ?_)
  · obtain ⟨p, ls, n, rfl, _⟩ := h
    rfl
  · obtain ⟨p, ls, n, rfl, hp, h4, h200, hn, hb, q⟩ := h
    refine ⟨_, b_check_image Y (ok_is_block Y) hr, ?_⟩
    show t_check_image K _ _ [some (.ref p), some (.int n), none] H
    unfold t_check_image
    walk_at "rd"
    refine ty_T hp ?_
    walk_at "rd"
    refine ln_t hp ?_
    rw [tv_len]
    walk_at "rd"
    rw [decide_eq_true (show (4 : Int) ≤ (ls.length : Int) by omega)]
    walk_at "rd"
    rw [decide_eq_true (show (ls.length : Int) ≤ 200 by omega)]
    walk_at "rd"
    refine lcT_mk hp (fun D i H' => Same H H' ∧ H' D = some (.lst ((List.replicate i true).map V.bl))) (fun D hD => ⟨same_upd hD, upd_same⟩) (fun D i H' hD _ hP => same_sqt hP.1 hp) (fun D i x H' hD hx hP => ?_) (fun D H' hD hP => ?_)
    · obtain ⟨hs, hd⟩ := hP
      obtain ⟨l, hl, rfl⟩ := tv_get hx
      obtain ⟨hT, hll⟩ := hb l (List.mem_of_getElem? hl)
      have hi := (List.getElem?_eq_some_iff.mp hl).1
      refine ⟨rfl, ?_⟩
      walk_at "rd"
      refine ⟨_, _, n, rfl, .str (S l), (fun l2 e => by have := (congrArg (fun d => match d with | PyData.str z => z.cps.toList.length | _ => 0) e); exact Nat.le_trans (Nat.le_of_eq this.symm) (by show l.length ≤ 300000; omega)), ?_⟩
      rw [show isBkD n (.str (S l)) = true by show (isT l && decide (l.length ≤ n)) = true; rw [hT, decide_eq_true hll]; rfl]
      refine ⟨_, hd, ?_, same_mut hs hD, ?_⟩
      · rw [List.length_map, List.length_replicate]
        exact Nat.lt_of_le_of_lt (show i ≤ 200 by omega) (by decide)
      · rw [upd_same, List.replicate_succ', List.map_append]
        rfl
    · obtain ⟨hs, hd⟩ := hP
      walk_at "rd"
      refine al_b (lst_of hd) ?_
      rw [show (List.replicate (tv ls).length true).all id = true by simp]
      walk_at "rd"
      exact q H' hs
end
end My

set_option Elab.async false
set_option linter.all false
set_option maxRecDepth 100000
set_option maxHeartbeats 1000000
namespace My
open PySem PySem.Spec PyProof.Rows L2
local macro_rules | `(tactic| walk_at "len") => `(tactic| first | assumption | omega | decide | (simp only [List.length_append, List.length_take, List.length_drop, List.length_cons, List.length_nil, List.length_replicate]; omega))
local macro_rules | `(tactic| walk_at "side") => `(tactic| first | assumption | exact Nat.zero_le _ | decide | omega)
local macro_rules | `(tactic| walk_at "rd1") => `(tactic| first
  | with_reducible refine s_seq ?_
  | with_reducible refine x_gsub ?_
  | with_reducible refine s_asg ?_
  | ((with_reducible refine s_gn ?_); dsimp only [List.set])
  | ((with_reducible refine x_var (v := ?rdv) ?rdhv ?_); (case rdhv => rfl))
  | with_reducible refine x_c ?_
  | with_reducible refine x_op ?_
  | with_reducible refine x_cons ?_
  | with_reducible refine x_nil ?_
  | with_reducible refine x_cb ?_
  | with_reducible refine x_call ?_
  | with_reducible refine x_callS ?_
  | with_reducible refine x_revT ?_
  | with_reducible refine x_dget ?_
  | with_reducible refine x_makeS ?_
  | with_reducible refine x_make ?_
  | with_reducible refine x_makeKS ?_
  | with_reducible refine x_methS ?_
  | with_reducible refine x_meth ?_
  | with_reducible refine x_methK ?_
  | with_reducible refine x_fld ?_
  | with_reducible refine s_fld ?_
  | with_reducible refine f_rt ?_
  | with_reducible refine f_zm ?_
  | with_reducible refine c_zm ?_
  | with_reducible refine x_din ?_
  | with_reducible refine x_dnotin ?_
  | with_reducible refine s_dput ?_
  | with_reducible refine x_dnew ?_
  | with_reducible refine s_try ?_
  | with_reducible refine s_raise ?_
  | with_reducible refine s_if ?_
  | with_reducible refine s_ret ?_
  | with_reducible refine s_retN ?_
  | with_reducible refine s_next ?_
  | with_reducible refine s_brk ?_
  | with_reducible refine s_cont ?_
  | with_reducible refine s_drop ?_
  | with_reducible refine s_par ?_
  | with_reducible refine s_par3 ?_
  | ((with_reducible refine s_p2 ?_); dsimp only [List.set])
  | ((with_reducible refine s_p3 ?_); dsimp only [List.set])
  | with_reducible refine f_r1 ?_
  | with_reducible refine f_r2 ?_
  | with_reducible refine f_l ?_
  | with_reducible refine f_t ?_
  | with_reducible refine f_s ?_
  | with_reducible refine c_r1 ?_
  | with_reducible refine c_r2 ?_
  | with_reducible refine c_l ?_
  | with_reducible refine c_t ?_
  | with_reducible refine c_s ?_
  | with_reducible refine x_tst ?_
  | with_reducible refine x_tru ?_
  | with_reducible refine x_truB ?_
  | with_reducible refine x_bl2 ?_
  | with_reducible refine x_int ?_
  | with_reducible refine x_str ?_
  | with_reducible refine x_not ?_
  | with_reducible refine x_and ?_
  | with_reducible refine x_or ?_
  | with_reducible refine x_andV ?_
  | with_reducible refine x_orV ?_
  | with_reducible refine x_notV ?_
  | with_reducible refine x_if ?_
  | with_reducible refine x_yes ?_
  | with_reducible refine x_un ?_
  | with_reducible refine x_tup ?_
  | with_reducible refine x_lst ?_
  | with_reducible refine x_callK ?_
  | with_reducible refine x_callK0 ?_
  | with_reducible refine x_bm ?_
  | with_reducible refine x_bm0 ?_
  | with_reducible refine x_tyS ?_
  | with_reducible refine x_sl ?_
  | with_reducible refine x_nopart ?_
  | with_reducible refine x_part ?_
  | with_reducible refine x_fmt0 ?_
  | with_reducible refine x_gc ?_
  | with_reducible refine x_gz ?_
  | with_reducible refine x_ckw ?_
  | with_reducible refine x_fmt ?_
  | with_reducible refine x_chain ?_
  | with_reducible refine a_ii ?_
  | ((with_reducible refine sl_to ?rda ?rdb ?_); (case rda => walk_at "len"); (case rdb => walk_at "len"))
  | ((with_reducible refine sl_from ?rda ?rdb ?_); (case rda => walk_at "len"); (case rdb => walk_at "len"))
  | ((with_reducible refine sl_mid ?rda ?rdb ?rdc ?_); (case rda => walk_at "len"); (case rdb => walk_at "len"); (case rdc => walk_at "len"))
  | ((with_reducible refine a_SS ?rda ?_); (case rda => walk_at "len"))
  | ((with_reducible refine ln_S ?rda ?_); (case rda => walk_at "len"))
  | with_reducible refine e_SS ?_
  | with_reducible refine ne_SS ?_
  | with_reducible refine s_ii ?_
  | ((with_reducible refine md_ii ?rdc ?_); (case rdc => first | decide | assumption | omega))
  | with_reducible refine n_i ?_
  | with_reducible refine e_ii ?_
  | with_reducible refine e_bb ?_
  | with_reducible refine ne_ii ?_
  | with_reducible refine ne_bb ?_
  | with_reducible refine lt_ii ?_
  | with_reducible refine lt_ss ?_
  | with_reducible refine le_ii ?_
  | with_reducible refine le_ss ?_
  | with_reducible refine gt_ii ?_
  | with_reducible refine gt_ss ?_
  | with_reducible refine ge_ii ?_
  | with_reducible refine e_ss ?_
  | with_reducible refine ne_ss ?_
  | with_reducible refine is_N ?_
  | with_reducible refine is_T ?_
  | with_reducible refine is_B ?_
  | with_reducible refine isn_N ?_
  | with_reducible refine isn_T ?_
  | with_reducible refine isn_B ?_
  | with_reducible refine in_s ?_
  | with_reducible refine nin_s ?_
  | with_reducible refine i_i ?_
  | with_reducible refine i_b ?_
  | with_reducible refine ab_i ?_
  | with_reducible refine mx_ii ?_
  | with_reducible refine mn_ii ?_
  | with_reducible refine ty_N ?_
  | with_reducible refine ty_B ?_
  | with_reducible refine ty_I ?_
  | with_reducible refine ty_S ?_
  | with_reducible refine ma_s ?_
  | with_reducible refine mp_s ?_
  | with_reducible refine mdg_s ?_
  | with_reducible refine mal_s ?_
  | with_reducible refine mlo_s ?_
  | with_reducible refine c_er ?_
  | with_reducible refine c_es ?_
  | with_reducible refine mf_s ?_
  | with_reducible refine iteT ?_
  | with_reducible refine iteF ?_
  | with_reducible refine iteNt ?_
  | with_reducible refine iteNf ?_
  | with_reducible refine iteTd (by decide) ?_
  | with_reducible refine iteFd (by decide) ?_
  | with_reducible refine iteNd (by decide) ?_
  | with_reducible refine iteNdF (by decide) ?_
  | ((with_reducible refine iteFd ?rdn ?_); (case rdn => (intro rdz; cases rdz; done)))
  | ((with_reducible refine iteNdF ?rdn ?_); (case rdn => (intro rdz; cases rdz; done))))
local macro_rules | `(tactic| walk_at "rd") => `(tactic| (repeat walk_at "rd1"))
section
variable {P : Program} {w : World} {K : PySem.W.Frag} {mg : Str → Option Value} {base : Heap}
/-! frames -/
def Fr (L : List Addr) (H H' : Hp) : Prop := ∀ a o, a ∉ L → H a = some o → H' a = some o
theorem Fr.refl {L : List Addr} (H : Hp) : Fr L H H := fun _ _ _ h => h
theorem Fr.trans {L : List Addr} {H1 H2 H3 : Hp} (a : Fr L H1 H2) (b : Fr L H2 H3) : Fr L H1 H3 := fun x o h e => b x o h (a x o h e)
theorem Fr.of {L : List Addr} {H H' : Hp} (e : Same H H') : Fr L H H' := fun a o _ h => e a o h
theorem Fr.mono {L M : List Addr} {H H' : Hp} (a : Fr L H H') (h : ∀ x ∈ L, x ∈ M) : Fr M H H' := fun x o hx e => a x o (fun z => hx (h x z)) e
theorem Fr.new {L : List Addr} {H H' : Hp} {p : Addr} {o : HO} (a : Fr L H H') (h : H' p = none) : Fr L H (upd H' p o) := fun x u hx e => same_upd h x u (a x u hx e)
theorem Fr.upd {L : List Addr} {H H' : Hp} {p : Addr} {o : HO} (a : Fr L H H') (h : p ∈ L) : Fr L H (upd H' p o) := fun x u hx e => by
  rw [upd_ne (fun z => hx (by rw [z]; exact h))]
  exact a x u hx e
theorem Fr.mut {L : List Addr} {H H' : Hp} {p : Addr} {o : HO} (a : Fr L H H') (h : H p = none) : Fr L H (L2.upd H' p o) := fun x u hx e => by
  rw [upd_ne (fun z => by rw [z, h] at e; cases e)]
  exact a x u hx e
/-! a disk -/
structure Cf where
  im : List (List Nat)
  pe : List (Nat × List Nat)
  sg : Nat
  st : Option Nat
  out : Bool
def stV : Option Nat → V
  | none => .non
  | some n => .int n
def stD : Option Nat → PyData
  | none => .none
  | some n => .int n
theorem dp_st (H : Hp) (o : Option Nat) : Dp K H (stV o) (stD o) := by
  cases o with
  | none => exact .non
  | some v => exact .int _
def peE (e : Nat × List Nat) : PyData := .tuple [.int e.1, .str (S e.2)]
def peD (pe : List (Nat × List Nat)) : PyData := .tuple (pe.map peE)
def imD (im : List (List Nat)) : PyData := .tuple (im.map fun l => PyData.str (S l))
def fsD (ia : V) (sg : Nat) (pa : V) (st : Option Nat) (out : Bool) : List (Str × V) := [("image", ia), ("signs", .int sg), ("pending", pa), ("steps", stV st), ("out", .bl out)]
structure Cok (c : Cf) : Prop where
  l4 : 4 ≤ c.im.length
  l200 : c.im.length ≤ 200
  s0 : 100 ≤ c.sg
  s1 : c.sg ≤ 1000
  bk : Blk c.sg c.im
  pl : c.pe.length ≤ 1000
  pb : ∀ e ∈ c.pe, e.1 < c.im.length ∧ isT e.2 = true ∧ e.2.length ≤ c.sg
def DiskAt (K : PySem.W.Frag) (C : Addr) (H : Hp) (d : Addr) (c : Cf) : Prop := Cok c ∧ ∃ (dx ia pa : Addr), H d = some (.ins C dx (fsD (.ref ia) c.sg (.ref pa) c.st c.out)) ∧ Dp K H (.ref ia) (imD c.im) ∧ Dp K H (.ref pa) (peD c.pe)
theorem im_sq {H : Hp} {ia : Addr} {im : List (List Nat)} (h : Dp K H (.ref ia) (imD im)) : SqT K H ia (tv im) := by
  obtain ⟨p, us, e, h1, h2⟩ := dp_tup' h
  cases e
  have e : us = tv im := by
    clear h h1
    induction im generalizing us with
    | nil => cases h2; rfl
    | cons l r ih =>
      cases h2 with
      | cons hd tl =>
        rw [dp_str' hd, ih _ tl]
        rfl
  rw [← e]
  exact h1
theorem sq_im {H : Hp} {ia : Addr} {im : List (List Nat)} (h : SqT K H ia (tv im)) : Dp K H (.ref ia) (imD im) := .tup h (dp_strs H im)
theorem lk_im {ia pa : V} {sg : Nat} {st : Option Nat} {out : Bool} : (fsD ia sg pa st out).lookup ("image" : Str) = some ia := by rfl
theorem lk_sg {ia pa : V} {sg : Nat} {st : Option Nat} {out : Bool} : (fsD ia sg pa st out).lookup ("signs" : Str) = some (.int sg) := by rfl
theorem lk_pe {ia pa : V} {sg : Nat} {st : Option Nat} {out : Bool} : (fsD ia sg pa st out).lookup ("pending" : Str) = some pa := by rfl
theorem lk_st {ia pa : V} {sg : Nat} {st : Option Nat} {out : Bool} : (fsD ia sg pa st out).lookup ("steps" : Str) = some (stV st) := by rfl
theorem lk_out {ia pa : V} {sg : Nat} {st : Option Nat} {out : Bool} : (fsD ia sg pa st out).lookup ("out" : Str) = some (.bl out) := by rfl
theorem pu_im {ia pa v : V} {sg : Nat} {st : Option Nat} {out : Bool} : putF "image" v (fsD ia sg pa st out) = fsD v sg pa st out := by rfl
theorem pu_pe {ia pa v : V} {sg : Nat} {st : Option Nat} {out : Bool} : putF "pending" v (fsD ia sg pa st out) = fsD ia sg v st out := by rfl
theorem pu_st {ia pa : V} {sg : Nat} {st st2 : Option Nat} {out : Bool} : putF "steps" (stV st2) (fsD ia sg pa st out) = fsD ia sg pa st2 out := by rfl
theorem pu_out {ia pa : V} {sg : Nat} {st : Option Nat} {out b : Bool} : putF "out" (.bl b) (fsD ia sg pa st out) = fsD ia sg pa st b := by rfl
theorem no_need {ia pa : V} {sg : Nat} {st : Option Nat} {out : Bool} : (fsD ia sg pa st out).lookup ("need_power" : Str) = none := by rfl
theorem no_take {ia pa : V} {sg : Nat} {st : Option Nat} {out : Bool} : (fsD ia sg pa st out).lookup ("take_step" : Str) = none := by rfl
theorem no_read {ia pa : V} {sg : Nat} {st : Option Nat} {out : Bool} : (fsD ia sg pa st out).lookup ("read" : Str) = none := by rfl
theorem no_write {ia pa : V} {sg : Nat} {st : Option Nat} {out : Bool} : (fsD ia sg pa st out).lookup ("write" : Str) = none := by rfl
theorem no_flush {ia pa : V} {sg : Nat} {st : Option Nat} {out : Bool} : (fsD ia sg pa st out).lookup ("flush" : Str) = none := by rfl
theorem no_offers {ia pa : V} {sg : Nat} {st : Option Nat} {out : Bool} : (fsD ia sg pa st out).lookup ("offers" : Str) = none := by rfl
theorem no_behind {ia pa : V} {sg : Nat} {st : Option Nat} {out : Bool} : (fsD ia sg pa st out).lookup ("behind" : Str) = none := by rfl
def tD (d : PyData) : Prop := tupD d = true
theorem tup_im (im : List (List Nat)) : tupD (imD im) = true := tupDs_of fun d hd => by
  obtain ⟨l, _, rfl⟩ := List.mem_map.mp hd
  rfl
theorem tup_pe (pe : List (Nat × List Nat)) : tupD (peD pe) = true := tupDs_of fun d hd => by
  obtain ⟨l, _, rfl⟩ := List.mem_map.mp hd
  rfl
/-- data of tuples stays where what changes is no tuple -/
theorem fr_dp {L : List Addr} {H H' : Hp} (hF : Fr L H H') (hL : ∀ x ∈ L, ∀ o, H x = some o → NoT o) {d : PyData} {v : V} (ht : tupD d = true) (h : Dp K H v d) : Dp K H' v d := ms_un (L := L) (dp_mono (ms_mono hF) _ _ (ms_dp hL d v ht h))
/-- a disk stays where others change -/
theorem DiskAt.keep {C : Addr} {L : List Addr} {H H' : Hp} {d : Addr} {c : Cf} (h : DiskAt K C H d c) (hF : Fr L H H') (hL : ∀ x ∈ L, ∀ o, H x = some o → NoT o) (hd : d ∉ L) : DiskAt K C H' d c := by
  obtain ⟨h0, dx, ia, pa, h1, h2, h3⟩ := h
  exact ⟨h0, dx, ia, pa, hF _ _ hd h1, fr_dp hF hL (tup_im _) h2, fr_dp hF hL (tup_pe _) h3⟩
theorem DiskAt.same {C : Addr} {H H' : Hp} {d : Addr} {c : Cf} (h : DiskAt K C H d c) (hS : Same H H') : DiskAt K C H' d c := by
  obtain ⟨h0, dx, ia, pa, h1, h2, h3⟩ := h
  exact ⟨h0, dx, ia, pa, hS _ _ h1, dp_mono hS _ _ h2, dp_mono hS _ _ h3⟩
/-- an own field changes -/
theorem DiskAt.put {C : Addr} {H H' : Hp} {d : Addr} {c' : Cf} {dx ia pa : Addr} {u : HO} (h0 : Cok c') (hd : H d = some u) (hu : NoT u) (hS : Same H H') (hi : Dp K H' (.ref ia) (imD c'.im)) (hp : Dp K H' (.ref pa) (peD c'.pe)) :
    DiskAt K C (upd H' d (.ins C dx (fsD (.ref ia) c'.sg (.ref pa) c'.st c'.out))) d c' := by
  have hF : Fr [d] H' (upd H' d (.ins C dx (fsD (.ref ia) c'.sg (.ref pa) c'.st c'.out))) := (Fr.refl H').upd (List.mem_singleton_self d)
  have hL : ∀ x ∈ [d], ∀ o, H' x = some o → NoT o := fun x hx o e => by
    rw [List.mem_singleton.mp hx, hS _ _ hd] at e
    cases e
    exact hu
  exact ⟨h0, dx, ia, pa, upd_same, fr_dp hF hL (tup_im _) hi, fr_dp hF hL (tup_pe _) hp⟩
/-! power -/
def stepR (c : Cf) : Bool × Cf := if c.out then (false, c) else match c.st with
  | some 0 => (false, { c with out := true })
  | none => (true, c)
  | some (n + 1) => (true, { c with st := some n })
theorem stepR_ok {c : Cf} (h : Cok c) : Cok (stepR c).2 := by
  obtain ⟨im, pe, sg, st, out⟩ := c
  unfold stepR
  cases out with
  | true => exact h
  | false =>
    match st with
    | none => exact h
    | some 0 => exact ⟨h.1, h.2, h.3, h.4, h.5, h.6, h.7⟩
    | some (n + 1) => exact ⟨h.1, h.2, h.3, h.4, h.5, h.6, h.7⟩
def sp_need (C x : Addr) (K : PySem.W.Frag) : Sp := fun vs H Q E => ∃ (d : Addr) (c : Cf), vs = [.ref d] ∧ DiskAt K C H d c ∧ (c.out = false → Q .non H) ∧ (c.out = true → E (.ref x) none H)
theorem ok_need (Y : Fx K mg) : FnOk P w K mg base (L2.CX P w) 1 Y.a_Disk_need_power Y.fd_Disk_need_power ["self"] (sp_need Y.C_Disk Y.x_PowerCut K) := by
  refine Y.F_Disk_need_power.okX sc_Disk_need_power (fun vs H Q E h => ?_) (fun cdv A outer s H vs Q E hr h => ?_)
  · obtain ⟨d, c, rfl, _⟩ := h
    rfl
  · obtain ⟨d, c, rfl, hD, q, e⟩ := h
    obtain ⟨h0, dx, ia, pa, hd, hi, hp⟩ := hD
    refine ⟨_, b_Disk_need_power Y hr, ?_⟩
    show t_Disk_need_power K Y E _ [some (.ref d)] H
    unfold t_Disk_need_power
    walk_at "rd"
    refine ⟨d, _, dx, _, _, rfl, hd, Y.c_Disk, Y.n_Disk_out, lk_out, ?_⟩
    walk_at "rd"
    cases ht : c.out with
    | false => walk_at "rd"; exact q ht
    | true => walk_at "rd"; exact e ht
def sp_take (C x : Addr) (K : PySem.W.Frag) : Sp := fun vs H Q E => ∃ (d : Addr) (c : Cf), vs = [.ref d] ∧ DiskAt K C H d c ∧ ((stepR c).1 = true → ∀ H', DiskAt K C H' d (stepR c).2 → Fr [d] H H' → Q .non H') ∧ ((stepR c).1 = false → ∀ H', DiskAt K C H' d (stepR c).2 → Fr [d] H H' → E (.ref x) none H')
theorem ok_take (Y : Fx K mg) : FnOk P w K mg base (L2.CX P w) 2 Y.a_Disk_take_step Y.fd_Disk_take_step ["self"] (sp_take Y.C_Disk Y.x_PowerCut K) := by
  refine Y.F_Disk_take_step.okX sc_Disk_take_step (fun vs H Q E h => ?_) (fun cdv A outer s H vs Q E hr h => ?_)
  · obtain ⟨d, c, rfl, _⟩ := h
    rfl
  · obtain ⟨d, c, rfl, hD, q, e⟩ := h
    have hD0 := hD
    obtain ⟨h0, dx, ia, pa, hd, hi, hp⟩ := hD
    have hok := stepR_ok h0
    obtain ⟨im, pe, sg, st, out⟩ := c
    refine ⟨_, b_Disk_take_step Y (ok_need Y) hr, ?_⟩
    show t_Disk_take_step K Y E _ _ [some (.ref d)] H
    unfold t_Disk_take_step
    walk_at "rd"
    refine ⟨d, dx, _, rfl, hd, no_need, ?_⟩
    walk_at "rd"
    refine ⟨d, _, rfl, hD0, fun ho => ?_, fun ho => ?_⟩
    · have ho' : out = false := ho
      subst ho'
      walk_at "rd"
      refine ⟨d, _, dx, _, _, rfl, hd, Y.c_Disk, Y.n_Disk_steps, lk_st, ?_⟩
      walk_at "rd"
      refine e_d (dp_st H st) (.int 0) (by cases st <;> rfl) rfl ?_
      match st with
      | none =>
        show ∃ k, V.bl false = .bl k ∧ _
        walk_at "rd"
        refine ⟨d, _, dx, _, _, rfl, hd, Y.c_Disk, Y.n_Disk_steps, lk_st, ?_⟩
        walk_at "rd"
        refine iteNd rfl ?_
        walk_at "rd"
        exact q rfl H hD0 (Fr.refl H)
      | some 0 =>
        show ∃ k, V.bl true = .bl k ∧ _
        walk_at "rd"
        refine ⟨d, _, dx, _, rfl, hd, Y.c_Disk, Y.n_Disk_out, (show 5 < 1000 by decide), ?_⟩
        rw [pu_out]
        walk_at "rd"
        exact e rfl _ (DiskAt.put (c' := ⟨im, pe, sg, some 0, true⟩) hok hd True.intro (fun _ _ h => h) hi hp) ((Fr.refl H).upd (List.mem_singleton_self d))
      | some (n + 1) =>
        have hz : PyData.eqv (stD (some (n + 1))) (.int 0) = false := by
          show decide (((n + 1 : Nat) : Int) = 0) = false
          exact decide_eq_false (by omega)
        rw [hz]
        walk_at "rd"
        refine ⟨d, _, dx, _, _, rfl, hd, Y.c_Disk, Y.n_Disk_steps, lk_st, ?_⟩
        walk_at "rd"
        refine ⟨d, _, dx, _, _, rfl, hd, Y.c_Disk, Y.n_Disk_steps, lk_st, ?_⟩
        show rSUB (.int ((n + 1 : Nat) : Int)) _ _ _
        walk_at "rd"
        rw [show ((n + 1 : Nat) : Int) - 1 = (n : Int) by omega]
        refine ⟨d, _, dx, _, rfl, hd, Y.c_Disk, Y.n_Disk_steps, (show 5 < 1000 by decide), ?_⟩
        rw [show V.int (n : Int) = stV (some n) from rfl, pu_st]
        exact q rfl _ (DiskAt.put (c' := ⟨im, pe, sg, some n, false⟩) hok hd True.intro (fun _ _ h => h) hi hp) ((Fr.refl H).upd (List.mem_singleton_self d))
    · have ho' : out = true := ho
      subst ho'
      exact e rfl H hD0 (Fr.refl H)
end
end My

set_option Elab.async false
set_option linter.all false
set_option maxRecDepth 100000
set_option maxHeartbeats 1000000
namespace My
open PySem PySem.Spec PyProof.Rows L2
local macro_rules | `(tactic| walk_at "len") => `(tactic| first | assumption | omega | decide | (simp only [List.length_append, List.length_take, List.length_drop, List.length_cons, List.length_nil, List.length_replicate]; omega))
local macro_rules | `(tactic| walk_at "side") => `(tactic| first | assumption | exact Nat.zero_le _ | decide | omega)
local macro_rules | `(tactic| walk_at "rd1") => `(tactic| first
  | with_reducible refine s_seq ?_
  | with_reducible refine x_gsub ?_
  | with_reducible refine s_asg ?_
  | ((with_reducible refine s_gn ?_); dsimp only [List.set])
  | ((with_reducible refine x_var (v := ?rdv) ?rdhv ?_); (case rdhv => rfl))
  | with_reducible refine x_c ?_
  | with_reducible refine x_op ?_
  | with_reducible refine x_cons ?_
  | with_reducible refine x_nil ?_
  | with_reducible refine x_cb ?_
  | with_reducible refine x_call ?_
  | with_reducible refine x_callS ?_
  | with_reducible refine x_revT ?_
  | with_reducible refine x_dget ?_
  | with_reducible refine x_makeS ?_
  | with_reducible refine x_make ?_
  | with_reducible refine x_makeKS ?_
  | with_reducible refine x_methS ?_
  | with_reducible refine x_meth ?_
  | with_reducible refine x_methK ?_
  | with_reducible refine x_fld ?_
  | with_reducible refine s_fld ?_
  | with_reducible refine f_rt ?_
  | with_reducible refine f_zm ?_
  | with_reducible refine c_zm ?_
  | with_reducible refine x_din ?_
  | with_reducible refine x_dnotin ?_
  | with_reducible refine s_dput ?_
  | with_reducible refine x_dnew ?_
  | with_reducible refine s_try ?_
  | with_reducible refine s_raise ?_
  | with_reducible refine s_if ?_
  | with_reducible refine s_ret ?_
  | with_reducible refine s_retN ?_
  | with_reducible refine s_next ?_
  | with_reducible refine s_brk ?_
  | with_reducible refine s_cont ?_
  | with_reducible refine s_drop ?_
  | with_reducible refine s_par ?_
  | with_reducible refine s_par3 ?_
  | ((with_reducible refine s_p2 ?_); dsimp only [List.set])
  | ((with_reducible refine s_p3 ?_); dsimp only [List.set])
  | with_reducible refine f_r1 ?_
  | with_reducible refine f_r2 ?_
  | with_reducible refine f_l ?_
  | with_reducible refine f_t ?_
  | with_reducible refine f_s ?_
  | with_reducible refine c_r1 ?_
  | with_reducible refine c_r2 ?_
  | with_reducible refine c_l ?_
  | with_reducible refine c_t ?_
  | with_reducible refine c_s ?_
  | with_reducible refine x_tst ?_
  | with_reducible refine x_tru ?_
  | with_reducible refine x_truB ?_
  | with_reducible refine x_bl2 ?_
  | with_reducible refine x_int ?_
  | with_reducible refine x_str ?_
  | with_reducible refine x_not ?_
  | with_reducible refine x_and ?_
  | with_reducible refine x_or ?_
  | with_reducible refine x_andV ?_
  | with_reducible refine x_orV ?_
  | with_reducible refine x_notV ?_
  | with_reducible refine x_if ?_
  | with_reducible refine x_yes ?_
  | with_reducible refine x_un ?_
  | with_reducible refine x_tup ?_
  | with_reducible refine x_lst ?_
  | with_reducible refine x_callK ?_
  | with_reducible refine x_callK0 ?_
  | with_reducible refine x_bm ?_
  | with_reducible refine x_bm0 ?_
  | with_reducible refine x_tyS ?_
  | with_reducible refine x_sl ?_
  | with_reducible refine x_nopart ?_
  | with_reducible refine x_part ?_
  | with_reducible refine x_fmt0 ?_
  | with_reducible refine x_gc ?_
  | with_reducible refine x_gz ?_
  | with_reducible refine x_ckw ?_
  | with_reducible refine x_fmt ?_
  | with_reducible refine x_chain ?_
  | with_reducible refine a_ii ?_
  | ((with_reducible refine sl_to ?rda ?rdb ?_); (case rda => walk_at "len"); (case rdb => walk_at "len"))
  | ((with_reducible refine sl_from ?rda ?rdb ?_); (case rda => walk_at "len"); (case rdb => walk_at "len"))
  | ((with_reducible refine sl_mid ?rda ?rdb ?rdc ?_); (case rda => walk_at "len"); (case rdb => walk_at "len"); (case rdc => walk_at "len"))
  | ((with_reducible refine a_SS ?rda ?_); (case rda => walk_at "len"))
  | ((with_reducible refine ln_S ?rda ?_); (case rda => walk_at "len"))
  | with_reducible refine e_SS ?_
  | with_reducible refine ne_SS ?_
  | with_reducible refine s_ii ?_
  | ((with_reducible refine md_ii ?rdc ?_); (case rdc => first | decide | assumption | omega))
  | with_reducible refine n_i ?_
  | with_reducible refine e_ii ?_
  | with_reducible refine e_bb ?_
  | with_reducible refine ne_ii ?_
  | with_reducible refine ne_bb ?_
  | with_reducible refine lt_ii ?_
  | with_reducible refine lt_ss ?_
  | with_reducible refine le_ii ?_
  | with_reducible refine le_ss ?_
  | with_reducible refine gt_ii ?_
  | with_reducible refine gt_ss ?_
  | with_reducible refine ge_ii ?_
  | with_reducible refine e_ss ?_
  | with_reducible refine ne_ss ?_
  | with_reducible refine is_N ?_
  | with_reducible refine is_T ?_
  | with_reducible refine is_B ?_
  | with_reducible refine isn_N ?_
  | with_reducible refine isn_T ?_
  | with_reducible refine isn_B ?_
  | with_reducible refine in_s ?_
  | with_reducible refine nin_s ?_
  | with_reducible refine i_i ?_
  | with_reducible refine i_b ?_
  | with_reducible refine ab_i ?_
  | with_reducible refine mx_ii ?_
  | with_reducible refine mn_ii ?_
  | with_reducible refine ty_N ?_
  | with_reducible refine ty_B ?_
  | with_reducible refine ty_I ?_
  | with_reducible refine ty_S ?_
  | with_reducible refine ma_s ?_
  | with_reducible refine mp_s ?_
  | with_reducible refine mdg_s ?_
  | with_reducible refine mal_s ?_
  | with_reducible refine mlo_s ?_
  | with_reducible refine c_er ?_
  | with_reducible refine c_es ?_
  | with_reducible refine mf_s ?_
  | with_reducible refine iteT ?_
  | with_reducible refine iteF ?_
  | with_reducible refine iteNt ?_
  | with_reducible refine iteNf ?_
  | with_reducible refine iteTd (by decide) ?_
  | with_reducible refine iteFd (by decide) ?_
  | with_reducible refine iteNd (by decide) ?_
  | with_reducible refine iteNdF (by decide) ?_
  | ((with_reducible refine iteFd ?rdn ?_); (case rdn => (intro rdz; cases rdz; done)))
  | ((with_reducible refine iteNdF ?rdn ?_); (case rdn => (intro rdz; cases rdz; done))))
local macro_rules | `(tactic| walk_at "rd") => `(tactic| (repeat walk_at "rd1"))
section
variable {P : Program} {w : World} {K : PySem.W.Frag} {mg : Str → Option Value} {base : Heap}
/-! what can stand at an index -/
def newL (im : List (List Nat)) (pe : List (Nat × List Nat)) (i : Nat) : List (List Nat) := im.getD i [] :: ((pe.filter fun e => e.1 == i).map (·.2))
def topL (im : List (List Nat)) (pe : List (Nat × List Nat)) (i : Nat) : List Nat := (newL im pe i).getLastD []
theorem newL_snoc {im : List (List Nat)} {pe : List (Nat × List Nat)} {e : Nat × List Nat} {i : Nat} : newL im (pe ++ [e]) i = newL im pe i ++ (if e.1 = i then [e.2] else []) := by
  unfold newL
  rw [List.filter_append, List.map_append]
  by_cases h : e.1 = i
  · rw [if_pos h]
    simp [List.filter, h]
  · rw [if_neg h, show [e].filter (fun e => e.1 == i) = [] from by rw [List.filter_cons, if_neg (by rw [beq_iff_eq]; exact h)]; rfl]
    simp
theorem topL_nil {im : List (List Nat)} {i : Nat} : topL im [] i = im.getD i [] := rfl
theorem topL_snoc {im : List (List Nat)} {pe : List (Nat × List Nat)} {e : Nat × List Nat} {i : Nat} : topL im (pe ++ [e]) i = if e.1 = i then e.2 else topL im pe i := by
  unfold topL
  rw [newL_snoc]
  by_cases h : e.1 = i
  · rw [if_pos h, if_pos h, List.getLastD_eq_getLast?, List.getLast?_append]; rfl
  · rw [if_neg h, if_neg h, List.append_nil]
theorem newL_ne {im : List (List Nat)} {pe : List (Nat × List Nat)} {i : Nat} : newL im pe i ≠ [] := fun e => by cases e
theorem newL_len {im : List (List Nat)} {pe : List (Nat × List Nat)} {i : Nat} : 1 ≤ (newL im pe i).length ∧ (newL im pe i).length ≤ pe.length + 1 := by
  unfold newL
  rw [List.length_cons, List.length_map]
  have := List.length_filter_le (fun e : Nat × List Nat => e.1 == i) pe
  omega
theorem newL_bk {c : Cf} (h : Cok c) {i : Nat} (hi : i < c.im.length) : Blk c.sg (newL c.im c.pe i) := fun l hl => by
  rcases List.mem_cons.mp hl with e | e
  · have e2 : c.im.getD i [] ∈ c.im := by
      rw [List.getD_eq_getElem?_getD, List.getElem?_eq_getElem hi]
      exact List.getElem_mem hi
    rw [e]
    exact h.bk _ e2
  · obtain ⟨x, hx, rfl⟩ := List.mem_map.mp e
    exact (h.pb x (List.mem_filter.mp hx).1).2
theorem topL_mem {im : List (List Nat)} {pe : List (Nat × List Nat)} {i : Nat} : topL im pe i ∈ newL im pe i := by
  unfold topL
  rw [List.getLastD_eq_getLast?, List.getLast?_eq_some_getLast newL_ne]
  exact List.getLast_mem newL_ne
theorem num_nat {m : Nat} {d : PyData} (h : isNumD 0 ((m : Int) - 1) d = true) : ∃ i : Nat, d = .int i ∧ i < m := by
  cases d with
  | int z =>
    have h' : (decide ((0 : Int) ≤ z) && decide (z ≤ (m : Int) - 1)) = true := h
    rw [Bool.and_eq_true, decide_eq_true_eq, decide_eq_true_eq] at h'
    exact ⟨z.toNat, by rw [Int.toNat_of_nonneg h'.1], by omega⟩
  | _ => cases h
theorem pe_item {H : Hp} {us : List V} {pe : List (Nat × List Nat)} (h : DpAll K H us (pe.map peE)) {i : Nat} {x : V} (hx : us[i]? = some x) : ∃ e p, pe[i]? = some e ∧ x = .ref p ∧ SqT K H p [.int e.1, .str (S e.2)] := by
  obtain ⟨e, h1, h2⟩ := all_at h hx
  obtain ⟨p, u, v, rfl, h3, h4, h5⟩ := dp_tup2 h2
  rw [dp_int' h4, dp_str' h5] at h3
  exact ⟨e, p, h1, rfl, h3⟩
def sp_read (C xi xp : Addr) (K : PySem.W.Frag) : Sp := fun vs H Q E => ∃ (d : Addr) (c : Cf) (v : V) (di : PyData), vs = [.ref d, v] ∧ DiskAt K C H d c ∧ Dp K H v di ∧ (isNumD 0 ((c.im.length : Int) - 1) di = false → E (.ref xi) none H) ∧ (isNumD 0 ((c.im.length : Int) - 1) di = true → c.out = true → E (.ref xp) none H) ∧
  ∀ i : Nat, di = .int i → i < c.im.length → c.out = false → Q (.str (S (topL c.im c.pe i))) H
theorem ok_read (Y : Fx K mg) : FnOk P w K mg base (L2.CX P w) 3 Y.a_Disk_read Y.fd_Disk_read ["self", "index"] (sp_read Y.C_Disk Y.x_InvalidIndex Y.x_PowerCut K) := by
  refine Y.F_Disk_read.okX sc_Disk_read (fun vs H Q E h => ?_) (fun cdv A outer s H vs Q E hr h => ?_)
  · obtain ⟨d, c, v, di, rfl, _⟩ := h
    rfl
  · obtain ⟨d, c, v, di, rfl, hD, hv, e1, e2, q⟩ := h
    have hD0 := hD
    obtain ⟨h0, dx, ia, pa, hd, hi, hp⟩ := hD
    have hiS := im_sq hi
    refine ⟨_, b_Disk_read Y (ok_need Y) (ok_check_index Y) hr, ?_⟩
    show t_Disk_read K Y E _ _ _ [some (.ref d), some v, none, none] H
    unfold t_Disk_read
    walk_at "rd"
    refine ⟨d, _, dx, _, _, rfl, hd, Y.c_Disk, Y.n_Disk_image, lk_im, ?_⟩
    walk_at "rd"
    refine ln_t hiS ?_
    rw [tv_len]
    walk_at "rd"
    refine ⟨v, di, c.im.length, rfl, hv, fun ht => ?_, fun ht => e1 ht⟩
    obtain ⟨i, rfl, hil⟩ := num_nat ht
    obtain rfl := dp_int' hv
    walk_at "rd"
    refine ⟨d, dx, _, rfl, hd, no_need, ?_⟩
    walk_at "rd"
    refine ⟨d, c, rfl, hD0, fun ho => ?_, fun ho => e2 ht ho⟩
    have q' := q i rfl hil ho
    walk_at "rd"
    refine ⟨d, _, dx, _, _, rfl, hd, Y.c_Disk, Y.n_Disk_pending, lk_pe, ?_⟩
    obtain ⟨pa', us, e, hps, hpd⟩ := dp_tup' hp
    cases e
    have hul : us.length = c.pe.length := by rw [dpAll_len hpd, List.length_map]
    refine forRT_mk hps (fun k σ H' => H' = H ∧ ∃ a b, σ = [some (.ref d), some (.int i), a, b] ∧ topL c.im c.pe i = topL c.im (c.pe.take (c.pe.length - k)) i) ⟨rfl, none, none, rfl, by rw [Nat.sub_zero, List.take_length]⟩ (fun k σ H' hP => by obtain ⟨rfl, _⟩ := hP; exact hps) (fun k x σ H' hk hx hP => ?_) (fun σ H' hP => ?_)
    · obtain ⟨rfl, a, b, rfl, ht⟩ := hP
      rw [hul] at hx hk
      obtain ⟨en, p, he, rfl, hs⟩ := pe_item hpd hx
      have hstep : topL c.im c.pe i = if en.1 = i then en.2 else topL c.im (c.pe.take (c.pe.length - (k + 1))) i := by
        rw [ht, show c.pe.length - k = (c.pe.length - 1 - k) + 1 by omega, take_snoc he, topL_snoc, show c.pe.length - (k + 1) = c.pe.length - 1 - k by omega]
      refine gt_T hs rfl ?_
      refine x_gc (s_gn (x_gc (s_gn (x_gz ?_))))
      walk_at "rd"
      refine ite2' (fun e => ?_) (fun e => ?_)
      · have e3 : en.1 = i := by have := of_decide_eq_true e; omega
        walk_at "rd"
        rw [hstep, if_pos e3] at q'
        exact q'
      · have e3 : ¬ en.1 = i := by have := of_decide_eq_false e; omega
        refine ⟨rfl, _, _, rfl, ?_⟩
        rw [hstep, if_neg e3]
    · obtain ⟨rfl, a, b, rfl, ht⟩ := hP
      rw [hul, Nat.sub_self, List.take_zero, topL_nil] at ht
      walk_at "rd"
      refine ⟨d, _, dx, _, _, rfl, hd, Y.c_Disk, Y.n_Disk_image, lk_im, ?_⟩
      walk_at "rd"
      refine ix_T hiS (at_nat (by omega) ?_) q'
      rw [ht, Int.toNat_natCast]
      unfold tv
      rw [List.getElem?_map, List.getElem?_eq_getElem hil, List.getD_eq_getElem?_getD, List.getElem?_eq_getElem hil]
      rfl
end
end My

set_option Elab.async false
set_option linter.all false
set_option maxRecDepth 100000
set_option maxHeartbeats 1000000
namespace My
open PySem PySem.Spec PyProof.Rows L2
local macro_rules | `(tactic| walk_at "len") => `(tactic| first | assumption | omega | decide | (simp only [List.length_append, List.length_take, List.length_drop, List.length_cons, List.length_nil, List.length_replicate]; omega))
local macro_rules | `(tactic| walk_at "side") => `(tactic| first | assumption | exact Nat.zero_le _ | decide | omega)
local macro_rules | `(tactic| walk_at "rd1") => `(tactic| first
  | with_reducible refine s_seq ?_
  | with_reducible refine x_gsub ?_
  | with_reducible refine s_asg ?_
  | ((with_reducible refine s_gn ?_); dsimp only [List.set])
  | ((with_reducible refine x_var (v := ?rdv) ?rdhv ?_); (case rdhv => rfl))
  | with_reducible refine x_c ?_
  | with_reducible refine x_op ?_
  | with_reducible refine x_cons ?_
  | with_reducible refine x_nil ?_
  | with_reducible refine x_cb ?_
  | with_reducible refine x_call ?_
  | with_reducible refine x_callS ?_
  | with_reducible refine x_revT ?_
  | with_reducible refine x_dget ?_
  | with_reducible refine x_makeS ?_
  | with_reducible refine x_make ?_
  | with_reducible refine x_makeKS ?_
  | with_reducible refine x_methS ?_
  | with_reducible refine x_meth ?_
  | with_reducible refine x_methK ?_
  | with_reducible refine x_fld ?_
  | with_reducible refine s_fld ?_
  | with_reducible refine f_rt ?_
  | with_reducible refine f_zm ?_
  | with_reducible refine c_zm ?_
  | with_reducible refine x_din ?_
  | with_reducible refine x_dnotin ?_
  | with_reducible refine s_dput ?_
  | with_reducible refine x_dnew ?_
  | with_reducible refine s_try ?_
  | with_reducible refine s_raise ?_
  | with_reducible refine s_if ?_
  | with_reducible refine s_ret ?_
  | with_reducible refine s_retN ?_
  | with_reducible refine s_next ?_
  | with_reducible refine s_brk ?_
  | with_reducible refine s_cont ?_
  | with_reducible refine s_drop ?_
  | with_reducible refine s_par ?_
  | with_reducible refine s_par3 ?_
  | ((with_reducible refine s_p2 ?_); dsimp only [List.set])
  | ((with_reducible refine s_p3 ?_); dsimp only [List.set])
  | with_reducible refine f_r1 ?_
  | with_reducible refine f_r2 ?_
  | with_reducible refine f_l ?_
  | with_reducible refine f_t ?_
  | with_reducible refine f_s ?_
  | with_reducible refine c_r1 ?_
  | with_reducible refine c_r2 ?_
  | with_reducible refine c_l ?_
  | with_reducible refine c_t ?_
  | with_reducible refine c_s ?_
  | with_reducible refine x_tst ?_
  | with_reducible refine x_tru ?_
  | with_reducible refine x_truB ?_
  | with_reducible refine x_bl2 ?_
  | with_reducible refine x_int ?_
  | with_reducible refine x_str ?_
  | with_reducible refine x_not ?_
  | with_reducible refine x_and ?_
  | with_reducible refine x_or ?_
  | with_reducible refine x_andV ?_
  | with_reducible refine x_orV ?_
  | with_reducible refine x_notV ?_
  | with_reducible refine x_if ?_
  | with_reducible refine x_yes ?_
  | with_reducible refine x_un ?_
  | with_reducible refine x_tup ?_
  | with_reducible refine x_lst ?_
  | with_reducible refine x_callK ?_
  | with_reducible refine x_callK0 ?_
  | with_reducible refine x_bm ?_
  | with_reducible refine x_bm0 ?_
  | with_reducible refine x_tyS ?_
  | with_reducible refine x_sl ?_
  | with_reducible refine x_nopart ?_
  | with_reducible refine x_part ?_
  | with_reducible refine x_fmt0 ?_
  | with_reducible refine x_gc ?_
  | with_reducible refine x_gz ?_
  | with_reducible refine x_ckw ?_
  | with_reducible refine x_fmt ?_
  | with_reducible refine x_chain ?_
  | with_reducible refine a_ii ?_
  | ((with_reducible refine sl_to ?rda ?rdb ?_); (case rda => walk_at "len"); (case rdb => walk_at "len"))
  | ((with_reducible refine sl_from ?rda ?rdb ?_); (case rda => walk_at "len"); (case rdb => walk_at "len"))
  | ((with_reducible refine sl_mid ?rda ?rdb ?rdc ?_); (case rda => walk_at "len"); (case rdb => walk_at "len"); (case rdc => walk_at "len"))
  | ((with_reducible refine a_SS ?rda ?_); (case rda => walk_at "len"))
  | ((with_reducible refine ln_S ?rda ?_); (case rda => walk_at "len"))
  | with_reducible refine e_SS ?_
  | with_reducible refine ne_SS ?_
  | with_reducible refine s_ii ?_
  | ((with_reducible refine md_ii ?rdc ?_); (case rdc => first | decide | assumption | omega))
  | with_reducible refine n_i ?_
  | with_reducible refine e_ii ?_
  | with_reducible refine e_bb ?_
  | with_reducible refine ne_ii ?_
  | with_reducible refine ne_bb ?_
  | with_reducible refine lt_ii ?_
  | with_reducible refine lt_ss ?_
  | with_reducible refine le_ii ?_
  | with_reducible refine le_ss ?_
  | with_reducible refine gt_ii ?_
  | with_reducible refine gt_ss ?_
  | with_reducible refine ge_ii ?_
  | with_reducible refine e_ss ?_
  | with_reducible refine ne_ss ?_
  | with_reducible refine is_N ?_
  | with_reducible refine is_T ?_
  | with_reducible refine is_B ?_
  | with_reducible refine isn_N ?_
  | with_reducible refine isn_T ?_
  | with_reducible refine isn_B ?_
  | with_reducible refine in_s ?_
  | with_reducible refine nin_s ?_
  | with_reducible refine i_i ?_
  | with_reducible refine i_b ?_
  | with_reducible refine ab_i ?_
  | with_reducible refine mx_ii ?_
  | with_reducible refine mn_ii ?_
  | with_reducible refine ty_N ?_
  | with_reducible refine ty_B ?_
  | with_reducible refine ty_I ?_
  | with_reducible refine ty_S ?_
  | with_reducible refine ma_s ?_
  | with_reducible refine mp_s ?_
  | with_reducible refine mdg_s ?_
  | with_reducible refine mal_s ?_
  | with_reducible refine mlo_s ?_
  | with_reducible refine c_er ?_
  | with_reducible refine c_es ?_
  | with_reducible refine mf_s ?_
  | with_reducible refine iteT ?_
  | with_reducible refine iteF ?_
  | with_reducible refine iteNt ?_
  | with_reducible refine iteNf ?_
  | with_reducible refine iteTd (by decide) ?_
  | with_reducible refine iteFd (by decide) ?_
  | with_reducible refine iteNd (by decide) ?_
  | with_reducible refine iteNdF (by decide) ?_
  | ((with_reducible refine iteFd ?rdn ?_); (case rdn => (intro rdz; cases rdz; done)))
  | ((with_reducible refine iteNdF ?rdn ?_); (case rdn => (intro rdz; cases rdz; done))))
local macro_rules | `(tactic| walk_at "rd") => `(tactic| (repeat walk_at "rd1"))
section
variable {P : Program} {w : World} {K : PySem.W.Frag} {mg : Str → Option Value} {base : Heap}
def addC (c : Cf) (i : Nat) (l : List Nat) : Cf := { c with pe := c.pe ++ [(i, l)] }
theorem stepR_im (c : Cf) : (stepR c).2.im = c.im := by
  obtain ⟨im, pe, sg, st, out⟩ := c
  unfold stepR
  cases out with
  | true => rfl
  | false =>
    match st with
    | none => rfl
    | some 0 => rfl
    | some (n + 1) => rfl
theorem stepR_sg (c : Cf) : (stepR c).2.sg = c.sg := by
  obtain ⟨im, pe, sg, st, out⟩ := c
  unfold stepR
  cases out with
  | true => rfl
  | false =>
    match st with
    | none => rfl
    | some 0 => rfl
    | some (n + 1) => rfl
theorem stepR_pe (c : Cf) : (stepR c).2.pe = c.pe := by
  obtain ⟨im, pe, sg, st, out⟩ := c
  unfold stepR
  cases out with
  | true => rfl
  | false =>
    match st with
    | none => rfl
    | some 0 => rfl
    | some (n + 1) => rfl
theorem addC_ok {c : Cf} {i : Nat} {l : List Nat} (h : Cok c) (hi : i < c.im.length) (hT : isT l = true) (hl : l.length ≤ c.sg) (hp : c.pe.length < 1000) : Cok (addC c i l) :=
  ⟨h.1, h.2, h.3, h.4, h.5, by show (c.pe ++ [(i, l)]).length ≤ 1000; rw [List.length_append]; exact hp, fun e he => by
    rcases List.mem_append.mp he with z | z
    · exact h.pb e z
    · rw [List.mem_singleton.mp z]; exact ⟨hi, hT, hl⟩⟩
theorem dps_app {H : Hp} : ∀ {us vs : List V} {ds es : List PyData}, DpAll K H us ds → DpAll K H vs es → DpAll K H (us ++ vs) (ds ++ es)
  | _, _, _, _, .nil, h => h
  | _, _, _, _, .cons a b, h => .cons a (dps_app b h)
theorem bk_str {n : Nat} {d : PyData} (h : isBkD n d = true) : ∃ l, d = .str (S l) ∧ isT l = true ∧ l.length ≤ n := by
  cases d with
  | str z =>
    have h' : (isT z.cps.toList && decide (z.cps.toList.length ≤ n)) = true := h
    rw [Bool.and_eq_true, decide_eq_true_eq] at h'
    exact ⟨_, by rw [← S_eta z], h'.1, h'.2⟩
  | _ => cases h
def sp_write (C xi xb xp : Addr) (K : PySem.W.Frag) : Sp := fun vs H Q E => ∃ (d : Addr) (c : Cf) (v u : V) (di db : PyData), vs = [.ref d, v, u] ∧ DiskAt K C H d c ∧ Dp K H v di ∧ Dp K H u db ∧ (∀ l, db = .str (S l) → l.length ≤ 300000) ∧ c.pe.length < 1000 ∧
  (isNumD 0 ((c.im.length : Int) - 1) di = false → E (.ref xi) none H) ∧ (isNumD 0 ((c.im.length : Int) - 1) di = true → isBkD c.sg db = false → E (.ref xb) none H) ∧
  (isNumD 0 ((c.im.length : Int) - 1) di = true → isBkD c.sg db = true → (stepR c).1 = false → ∀ H', DiskAt K C H' d (stepR c).2 → Fr [d] H H' → E (.ref xp) none H') ∧
  ∀ (i : Nat) (l : List Nat), di = .int i → i < c.im.length → db = .str (S l) → isT l = true → l.length ≤ c.sg → (stepR c).1 = true → ∀ H', DiskAt K C H' d (addC (stepR c).2 i l) → Fr [d] H H' → Q .non H'
theorem ok_write (Y : Fx K mg) : FnOk P w K mg base (L2.CX P w) 4 Y.a_Disk_write Y.fd_Disk_write ["self", "index", "block"] (sp_write Y.C_Disk Y.x_InvalidIndex Y.x_InvalidBlock Y.x_PowerCut K) := by
  refine Y.F_Disk_write.okX sc_Disk_write (fun vs H Q E h => ?_) (fun cdv A outer s H vs Q E hr h => ?_)
  · obtain ⟨d, c, v, u, di, db, rfl, _⟩ := h
    rfl
  · obtain ⟨d, c, v, u, di, db, rfl, hD, hv, hu, hbl, hpl, e1, e2, e3, q⟩ := h
    have hD0 := hD
    obtain ⟨h0, dx, ia, pa, hd, hi, hp⟩ := hD
    have hiS := im_sq hi
    refine ⟨_, b_Disk_write Y (ok_take Y) (ok_check_block Y) (ok_check_index Y) hr, ?_⟩
    show t_Disk_write K Y E _ _ _ _ [some (.ref d), some v, some u] H
    unfold t_Disk_write
    walk_at "rd"
    refine ⟨d, _, dx, _, _, rfl, hd, Y.c_Disk, Y.n_Disk_image, lk_im, ?_⟩
    walk_at "rd"
    refine ln_t hiS ?_
    rw [tv_len]
    walk_at "rd"
    refine ⟨v, di, c.im.length, rfl, hv, fun ht => ?_, fun ht => e1 ht⟩
    walk_at "rd"
    refine ⟨d, _, dx, _, _, rfl, hd, Y.c_Disk, Y.n_Disk_signs, lk_sg, ?_⟩
    walk_at "rd"
    refine ⟨u, db, c.sg, rfl, hu, hbl, fun hb => ?_, fun hb => e2 ht hb⟩
    obtain ⟨i, rfl, hil⟩ := num_nat ht
    obtain rfl := dp_int' hv
    obtain ⟨l, rfl, hT, hll⟩ := bk_str hb
    obtain rfl := dp_str' hu
    walk_at "rd"
    refine ⟨d, dx, _, rfl, hd, no_take, ?_⟩
    walk_at "rd"
    refine ⟨d, c, rfl, hD0, fun hs H1 hD1 hF1 => ?_, fun hs H1 hD1 hF1 => e3 ht hb hs H1 hD1 hF1⟩
    obtain ⟨h1, dx1, ia1, pa1, hd1, hi1, hp1⟩ := hD1
    obtain ⟨pa', us, e, hps, hpd⟩ := dp_tup' hp1
    cases e
    have hul : us.length = (stepR c).2.pe.length := by rw [dpAll_len hpd, List.length_map]
    walk_at "rd"
    refine ⟨d, _, dx1, _, _, rfl, hd1, Y.c_Disk, Y.n_Disk_pending, lk_pe, ?_⟩
    walk_at "rd"
    refine ⟨by show 2 ≤ sizeLine; decide, fun p2 hp2 => ?_⟩
    walk_at "rd"
    refine ⟨by show 1 ≤ sizeLine; decide, fun p3 hp3 => ?_⟩
    have hS2 : Same H1 (upd H1 p2 (.tup [.int i, .str (S l)])) := same_upd hp2
    have hS3 : Same H1 (upd (upd H1 p2 (.tup [.int i, .str (S l)])) p3 (.tup [.ref p2])) := same_new hS2 hp3
    have hone : DpAll K (upd (upd H1 p2 (.tup [.int i, .str (S l)])) p3 (.tup [.ref p2])) [.ref p2] [peE (i, l)] :=
      .cons (.tup (tup_of (same_upd hp3 _ _ upd_same)) (.cons (.int _) (.cons (.str _) .nil))) .nil
    have fin : ∀ (r : Addr) (H2 : Hp), Same H1 H2 → Dp K H2 (.ref r) (peD ((stepR c).2.pe ++ [(i, l)])) → Q .non (upd H2 d (.ins Y.C_Disk dx1 (fsD (.ref ia1) (stepR c).2.sg (.ref r) (stepR c).2.st (stepR c).2.out))) := fun r H2 hS hr =>
      q i l rfl hil rfl hT hll hs _ (DiskAt.put (c' := addC (stepR c).2 i l) (addC_ok h1 (by rw [stepR_im]; exact hil) hT (by rw [stepR_sg]; exact hll) (by rw [stepR_pe]; exact hpl)) hd1 True.intro hS (dp_mono hS _ _ hi1) hr) (hF1.trans ((Fr.of hS).upd (List.mem_singleton_self d)))
    have h3 : (upd (upd H1 p2 (.tup [.int i, .str (S l)])) p3 (.tup [.ref p2])) p3 = some (.tup [.ref p2]) := upd_same
    generalize upd (upd H1 p2 (.tup [.int i, .str (S l)])) p3 (.tup [.ref p2]) = H3 at hS3 hone h3
    refine a_tt (same_sqt hS3 hps) (tup_of h3) ?_ ⟨fun en => ?_, fun _ z => (by cases z), fun en _ r hr => ?_⟩
    · rw [hul, stepR_pe]
      show c.pe.length + 1 ≤ sizeLine
      exact Nat.le_trans (show c.pe.length + 1 ≤ 1000 by omega) (by decide)
    · walk_at "rd"
      refine ⟨d, _, dx1, _, rfl, hS3 _ _ hd1, Y.c_Disk, Y.n_Disk_pending, (show 5 < 1000 by decide), ?_⟩
      rw [pu_pe]
      refine fin p3 H3 hS3 (.tup (tup_of h3) ?_)
      have en2 : (stepR c).2.pe = [] := List.eq_nil_of_length_eq_zero (by rw [← hul, en]; rfl)
      rw [en2]
      exact hone
    · walk_at "rd"
      have hS4 := same_new hS3 hr (o := .tup (us ++ [.ref p2]))
      refine ⟨d, _, dx1, _, rfl, hS4 _ _ hd1, Y.c_Disk, Y.n_Disk_pending, (show 5 < 1000 by decide), ?_⟩
      rw [pu_pe]
      refine fin r _ hS4 (.tup (tup_of upd_same) ?_)
      rw [List.map_append]
      exact dps_app (dpAll_mono hS4 _ _ hpd) (dpAll_mono (same_upd hr) _ _ hone)
end
end My

set_option Elab.async false
set_option linter.all false
set_option maxRecDepth 100000
set_option maxHeartbeats 1000000
namespace My
open PySem PySem.Spec PyProof.Rows L2
local macro_rules | `(tactic| walk_at "len") => `(tactic| first | assumption | omega | decide | (simp only [List.length_append, List.length_take, List.length_drop, List.length_cons, List.length_nil, List.length_replicate]; omega))
local macro_rules | `(tactic| walk_at "side") => `(tactic| first | assumption | exact Nat.zero_le _ | decide | omega)
local macro_rules | `(tactic| walk_at "rd1") => `(tactic| first
  | with_reducible refine s_seq ?_
  | with_reducible refine x_gsub ?_
  | with_reducible refine s_asg ?_
  | ((with_reducible refine s_gn ?_); dsimp only [List.set])
  | ((with_reducible refine x_var (v := ?rdv) ?rdhv ?_); (case rdhv => rfl))
  | with_reducible refine x_c ?_
  | with_reducible refine x_op ?_
  | with_reducible refine x_cons ?_
  | with_reducible refine x_nil ?_
  | with_reducible refine x_cb ?_
  | with_reducible refine x_call ?_
  | with_reducible refine x_callS ?_
  | with_reducible refine x_revT ?_
  | with_reducible refine x_dget ?_
  | with_reducible refine x_makeS ?_
  | with_reducible refine x_make ?_
  | with_reducible refine x_makeKS ?_
  | with_reducible refine x_methS ?_
  | with_reducible refine x_meth ?_
  | with_reducible refine x_methK ?_
  | with_reducible refine x_fld ?_
  | with_reducible refine s_fld ?_
  | with_reducible refine f_rt ?_
  | with_reducible refine f_zm ?_
  | with_reducible refine c_zm ?_
  | with_reducible refine x_din ?_
  | with_reducible refine x_dnotin ?_
  | with_reducible refine s_dput ?_
  | with_reducible refine x_dnew ?_
  | with_reducible refine s_try ?_
  | with_reducible refine s_raise ?_
  | with_reducible refine s_if ?_
  | with_reducible refine s_ret ?_
  | with_reducible refine s_retN ?_
  | with_reducible refine s_next ?_
  | with_reducible refine s_brk ?_
  | with_reducible refine s_cont ?_
  | with_reducible refine s_drop ?_
  | with_reducible refine s_par ?_
  | with_reducible refine s_par3 ?_
  | ((with_reducible refine s_p2 ?_); dsimp only [List.set])
  | ((with_reducible refine s_p3 ?_); dsimp only [List.set])
  | with_reducible refine f_r1 ?_
  | with_reducible refine f_r2 ?_
  | with_reducible refine f_l ?_
  | with_reducible refine f_t ?_
  | with_reducible refine f_s ?_
  | with_reducible refine c_r1 ?_
  | with_reducible refine c_r2 ?_
  | with_reducible refine c_l ?_
  | with_reducible refine c_t ?_
  | with_reducible refine c_s ?_
  | with_reducible refine x_tst ?_
  | with_reducible refine x_tru ?_
  | with_reducible refine x_truB ?_
  | with_reducible refine x_bl2 ?_
  | with_reducible refine x_int ?_
  | with_reducible refine x_str ?_
  | with_reducible refine x_not ?_
  | with_reducible refine x_and ?_
  | with_reducible refine x_or ?_
  | with_reducible refine x_andV ?_
  | with_reducible refine x_orV ?_
  | with_reducible refine x_notV ?_
  | with_reducible refine x_if ?_
  | with_reducible refine x_yes ?_
  | with_reducible refine x_un ?_
  | with_reducible refine x_tup ?_
  | with_reducible refine x_lst ?_
  | with_reducible refine x_callK ?_
  | with_reducible refine x_callK0 ?_
  | with_reducible refine x_bm ?_
  | with_reducible refine x_bm0 ?_
  | with_reducible refine x_tyS ?_
  | with_reducible refine x_sl ?_
  | with_reducible refine x_nopart ?_
  | with_reducible refine x_part ?_
  | with_reducible refine x_fmt0 ?_
  | with_reducible refine x_gc ?_
  | with_reducible refine x_gz ?_
  | with_reducible refine x_ckw ?_
  | with_reducible refine x_fmt ?_
  | with_reducible refine x_chain ?_
  | with_reducible refine a_ii ?_
  | ((with_reducible refine sl_to ?rda ?rdb ?_); (case rda => walk_at "len"); (case rdb => walk_at "len"))
  | ((with_reducible refine sl_from ?rda ?rdb ?_); (case rda => walk_at "len"); (case rdb => walk_at "len"))
  | ((with_reducible refine sl_mid ?rda ?rdb ?rdc ?_); (case rda => walk_at "len"); (case rdb => walk_at "len"); (case rdc => walk_at "len"))
  | ((with_reducible refine a_SS ?rda ?_); (case rda => walk_at "len"))
  | ((with_reducible refine ln_S ?rda ?_); (case rda => walk_at "len"))
  | with_reducible refine e_SS ?_
  | with_reducible refine ne_SS ?_
  | with_reducible refine s_ii ?_
  | ((with_reducible refine md_ii ?rdc ?_); (case rdc => first | decide | assumption | omega))
  | with_reducible refine n_i ?_
  | with_reducible refine e_ii ?_
  | with_reducible refine e_bb ?_
  | with_reducible refine ne_ii ?_
  | with_reducible refine ne_bb ?_
  | with_reducible refine lt_ii ?_
  | with_reducible refine lt_ss ?_
  | with_reducible refine le_ii ?_
  | with_reducible refine le_ss ?_
  | with_reducible refine gt_ii ?_
  | with_reducible refine gt_ss ?_
  | with_reducible refine ge_ii ?_
  | with_reducible refine e_ss ?_
  | with_reducible refine ne_ss ?_
  | with_reducible refine is_N ?_
  | with_reducible refine is_T ?_
  | with_reducible refine is_B ?_
  | with_reducible refine isn_N ?_
  | with_reducible refine isn_T ?_
  | with_reducible refine isn_B ?_
  | with_reducible refine in_s ?_
  | with_reducible refine nin_s ?_
  | with_reducible refine i_i ?_
  | with_reducible refine i_b ?_
  | with_reducible refine ab_i ?_
  | with_reducible refine mx_ii ?_
  | with_reducible refine mn_ii ?_
  | with_reducible refine ty_N ?_
  | with_reducible refine ty_B ?_
  | with_reducible refine ty_I ?_
  | with_reducible refine ty_S ?_
  | with_reducible refine ma_s ?_
  | with_reducible refine mp_s ?_
  | with_reducible refine mdg_s ?_
  | with_reducible refine mal_s ?_
  | with_reducible refine mlo_s ?_
  | with_reducible refine c_er ?_
  | with_reducible refine c_es ?_
  | with_reducible refine mf_s ?_
  | with_reducible refine iteT ?_
  | with_reducible refine iteF ?_
  | with_reducible refine iteNt ?_
  | with_reducible refine iteNf ?_
  | with_reducible refine iteTd (by decide) ?_
  | with_reducible refine iteFd (by decide) ?_
  | with_reducible refine iteNd (by decide) ?_
  | with_reducible refine iteNdF (by decide) ?_
  | ((with_reducible refine iteFd ?rdn ?_); (case rdn => (intro rdz; cases rdz; done)))
  | ((with_reducible refine iteNdF ?rdn ?_); (case rdn => (intro rdz; cases rdz; done))))
local macro_rules | `(tactic| walk_at "rd") => `(tactic| (repeat walk_at "rd1"))
section
variable {P : Program} {w : World} {K : PySem.W.Frag} {mg : Str → Option Value} {base : Heap}
/-! a flush -/
def apT (im : List (List Nat)) (pe : List (Nat × List Nat)) : List (List Nat) := pe.foldl (fun b e => b.set e.1 e.2) im
theorem apT_snoc {im : List (List Nat)} {pe : List (Nat × List Nat)} {e : Nat × List Nat} : apT im (pe ++ [e]) = (apT im pe).set e.1 e.2 := by
  unfold apT
  rw [List.foldl_append]
  rfl
theorem apT_len {im : List (List Nat)} {pe : List (Nat × List Nat)} : (apT im pe).length = im.length := by
  unfold apT
  induction pe generalizing im with
  | nil => rfl
  | cons e r ih =>
    show (r.foldl _ (im.set e.1 e.2)).length = _
    rw [ih, List.length_set]
theorem apT_get {im : List (List Nat)} {pe : List (Nat × List Nat)} {i : Nat} (hi : i < im.length) : ∀ k, k ≤ pe.length → (apT im (pe.take k))[i]? = some (topL im (pe.take k) i)
  | 0, _ => by
    rw [List.take_zero, topL_nil, List.getD_eq_getElem?_getD]
    show im[i]? = some (im[i]?.getD [])
    rw [List.getElem?_eq_getElem hi]
    rfl
  | k + 1, hk => by
    have he : pe[k]? = some pe[k] := List.getElem?_eq_getElem hk
    rw [take_snoc he, apT_snoc, topL_snoc, List.getElem?_set]
    by_cases h : pe[k].1 = i
    · rw [if_pos h, if_pos h, if_pos (by rw [apT_len]; omega)]
    · rw [if_neg h, if_neg h]
      exact apT_get hi k (by omega)
def flI (im : List (List Nat)) (pe : List (Nat × List Nat)) : List (List Nat) := (List.range im.length).map (topL im pe)
theorem apT_fl {im : List (List Nat)} {pe : List (Nat × List Nat)} : apT im pe = flI im pe := by
  refine List.ext_getElem? fun i => ?_
  unfold flI
  rw [List.getElem?_map]
  by_cases hi : i < im.length
  · have := apT_get (pe := pe) hi pe.length (Nat.le_refl _)
    rw [List.take_length] at this
    rw [this, List.getElem?_range hi]
    rfl
  · rw [List.getElem?_eq_none (by rw [apT_len]; omega), List.getElem?_eq_none (by rw [List.length_range]; omega)]
    rfl
def flC (c : Cf) : Cf := { c with im := flI c.im c.pe, pe := [] }
theorem flI_len {im : List (List Nat)} {pe : List (Nat × List Nat)} : (flI im pe).length = im.length := by
  unfold flI
  rw [List.length_map, List.length_range]
theorem flC_ok {c : Cf} (h : Cok c) : Cok (flC c) := by
  have hl : (flC c).im.length = c.im.length := flI_len
  refine ⟨by rw [hl]; exact h.1, by rw [hl]; exact h.2, h.3, h.4, fun l hm => ?_, Nat.zero_le _, fun e he => by cases he⟩
  obtain ⟨i, hi, rfl⟩ := List.mem_map.mp hm
  exact newL_bk h (List.mem_range.mp hi) _ topL_mem
theorem tv_set {ls : List (List Nat)} {i : Nat} {l : List Nat} : (tv ls).set i (.str (S l)) = tv (ls.set i l) := by
  unfold tv
  rw [List.map_set]
def sp_flush (C xp : Addr) (K : PySem.W.Frag) : Sp := fun vs H Q E => ∃ (d : Addr) (c : Cf), vs = [.ref d] ∧ DiskAt K C H d c ∧ ((stepR c).1 = false → ∀ H', DiskAt K C H' d (stepR c).2 → Fr [d] H H' → E (.ref xp) none H') ∧
  ((stepR c).1 = true → ∀ H', DiskAt K C H' d (flC (stepR c).2) → Fr [d] H H' → Q .non H')
theorem ok_flush (Y : Fx K mg) : FnOk P w K mg base (L2.CX P w) 3 Y.a_Disk_flush Y.fd_Disk_flush ["self"] (sp_flush Y.C_Disk Y.x_PowerCut K) := by
  refine Y.F_Disk_flush.okX sc_Disk_flush (fun vs H Q E h => ?_) (fun cdv A outer s H vs Q E hr h => ?_)
  · obtain ⟨d, c, rfl, _⟩ := h
    rfl
  · obtain ⟨d, c, rfl, hD, e3, q⟩ := h
    have hD0 := hD
    obtain ⟨h0, dx, ia, pa, hd, hi, hp⟩ := hD
    refine ⟨_, b_Disk_flush Y (ok_take Y) hr, ?_⟩
    show t_Disk_flush K Y E _ _ [some (.ref d), none, none, none] H
    unfold t_Disk_flush
    walk_at "rd"
    refine ⟨d, dx, _, rfl, hd, no_take, ?_⟩
    walk_at "rd"
    refine ⟨d, c, rfl, hD0, fun hs H1 hD1 hF1 => ?_, fun hs H1 hD1 hF1 => e3 hs H1 hD1 hF1⟩
    have q' := q hs
    generalize (stepR c).2 = c1 at hD1 q'
    obtain ⟨h1, dx1, ia1, pa1, hd1, hi1, hp1⟩ := hD1
    have hiS := im_sq hi1
    obtain ⟨pa', us, e, hps, hpd⟩ := dp_tup' hp1
    cases e
    have hul : us.length = c1.pe.length := by rw [dpAll_len hpd, List.length_map]
    walk_at "rd"
    refine ⟨d, _, dx1, _, _, rfl, hd1, Y.c_Disk, Y.n_Disk_image, lk_im, ?_⟩
    walk_at "rd"
    refine ⟨ia1, tv c1.im, rfl, .inr hiS, fun D hDn => ?_⟩
    walk_at "rd"
    have hSD : Same H1 (upd H1 D (.lst (tv c1.im))) := same_upd hDn
    refine ⟨d, _, dx1, _, _, rfl, hSD _ _ hd1, Y.c_Disk, Y.n_Disk_pending, lk_pe, ?_⟩
    refine forT_mk (same_sqt hSD hps) (fun k σ H' => ∃ a b, σ = [some (.ref d), some (.ref D), a, b] ∧ Same H1 H' ∧ H' D = some (.lst (tv (apT c1.im (c1.pe.take k))))) ⟨none, none, rfl, hSD, upd_same⟩ (fun k σ H' _ hP => by obtain ⟨a, b, _, hS, _⟩ := hP; exact same_sqt hS hps) (fun k x σ H' hx hP => ?_) (fun σ H' hP => ?_)
    · obtain ⟨a, b, rfl, hS, hDk⟩ := hP
      obtain ⟨en, p, he, rfl, hs2⟩ := pe_item hpd hx
      refine gt_T (same_sqt hS hs2) rfl ?_
      refine x_gc (s_gn (x_gc (s_gn (x_gz ?_))))
      have hb := h1.pb en (List.mem_of_getElem? he)
      walk_at "rd"
      refine st_L hDk (by omega) (by rw [tv_len, apT_len]; omega) ?_
      refine ⟨_, _, rfl, same_mut hS hDn, ?_⟩
      rw [upd_same, Int.toNat_natCast, tv_set, take_snoc he, apT_snoc]
    · obtain ⟨a, b, rfl, hS, hDk⟩ := hP
      rw [hul, List.take_length, apT_fl] at hDk
      walk_at "rd"
      refine tu_L (lst_of hDk) fun r hr => ?_
      have hS2 : Same H1 (upd H' r (.tup (tv (flI c1.im c1.pe)))) := same_new hS hr
      walk_at "rd"
      refine ⟨d, _, dx1, _, rfl, hS2 _ _ hd1, Y.c_Disk, Y.n_Disk_image, (show 5 < 1000 by decide), ?_⟩
      rw [pu_im]
      have hrT : SqT K (upd H' r (.tup (tv (flI c1.im c1.pe)))) r (tv (flI c1.im c1.pe)) := tup_of upd_same
      generalize upd H' r (.tup (tv (flI c1.im c1.pe))) = H2 at hS2 hrT
      have hF2 : Fr [d] H1 (upd H2 d (.ins Y.C_Disk dx1 (fsD (.ref r) c1.sg (.ref pa1) c1.st c1.out))) := (Fr.of hS2).upd (List.mem_singleton_self d)
      have hL : ∀ x ∈ [d], ∀ o, H2 x = some o → NoT o := fun x hx o e => by
        rw [List.mem_singleton.mp hx, hS2 _ _ hd1] at e
        cases e
        exact True.intro
      have hi2 : Dp K (upd H2 d (.ins Y.C_Disk dx1 (fsD (.ref r) c1.sg (.ref pa1) c1.st c1.out))) (.ref r) (imD (flI c1.im c1.pe)) := fr_dp ((Fr.refl H2).upd (List.mem_singleton_self d)) hL (tup_im _) (sq_im hrT)
      have hd2 : (upd H2 d (.ins Y.C_Disk dx1 (fsD (.ref r) c1.sg (.ref pa1) c1.st c1.out))) d = some (.ins Y.C_Disk dx1 (fsD (.ref r) c1.sg (.ref pa1) c1.st c1.out)) := upd_same
      generalize upd H2 d (.ins Y.C_Disk dx1 (fsD (.ref r) c1.sg (.ref pa1) c1.st c1.out)) = H3 at hF2 hi2 hd2
      walk_at "rd"
      refine ⟨Nat.zero_le _, fun p2 hp2 => ?_⟩
      have hS3 : Same H3 (upd H3 p2 (.tup [])) := same_upd hp2
      walk_at "rd"
      refine ⟨d, _, dx1, _, rfl, hS3 _ _ hd2, Y.c_Disk, Y.n_Disk_pending, (show 5 < 1000 by decide), ?_⟩
      rw [pu_pe]
      exact q' _ (DiskAt.put (c' := flC c1) (flC_ok h1) hd2 True.intro hS3 (dp_mono hS3 _ _ hi2) (.tup (tup_of upd_same) .nil)) (hF1.trans ((hF2.new hp2).upd (List.mem_singleton_self d)))
end
end My

set_option Elab.async false
set_option linter.all false
set_option maxRecDepth 100000
set_option maxHeartbeats 1000000
namespace My
open PySem PySem.Spec PyProof.Rows L2
local macro_rules | `(tactic| walk_at "len") => `(tactic| first | assumption | omega | decide | (simp only [List.length_append, List.length_take, List.length_drop, List.length_cons, List.length_nil, List.length_replicate]; omega))
local macro_rules | `(tactic| walk_at "side") => `(tactic| first | assumption | exact Nat.zero_le _ | decide | omega)
local macro_rules | `(tactic| walk_at "rd1") => `(tactic| first
  | with_reducible refine s_seq ?_
  | with_reducible refine x_gsub ?_
  | with_reducible refine s_asg ?_
  | ((with_reducible refine s_gn ?_); dsimp only [List.set])
  | ((with_reducible refine x_var (v := ?rdv) ?rdhv ?_); (case rdhv => rfl))
  | with_reducible refine x_c ?_
  | with_reducible refine x_op ?_
  | with_reducible refine x_cons ?_
  | with_reducible refine x_nil ?_
  | with_reducible refine x_cb ?_
  | with_reducible refine x_call ?_
  | with_reducible refine x_callS ?_
  | with_reducible refine x_revT ?_
  | with_reducible refine x_dget ?_
  | with_reducible refine x_makeS ?_
  | with_reducible refine x_make ?_
  | with_reducible refine x_makeKS ?_
  | with_reducible refine x_methS ?_
  | with_reducible refine x_meth ?_
  | with_reducible refine x_methK ?_
  | with_reducible refine x_fld ?_
  | with_reducible refine s_fld ?_
  | with_reducible refine f_rt ?_
  | with_reducible refine f_zm ?_
  | with_reducible refine c_zm ?_
  | with_reducible refine x_din ?_
  | with_reducible refine x_dnotin ?_
  | with_reducible refine s_dput ?_
  | with_reducible refine x_dnew ?_
  | with_reducible refine s_try ?_
  | with_reducible refine s_raise ?_
  | with_reducible refine s_if ?_
  | with_reducible refine s_ret ?_
  | with_reducible refine s_retN ?_
  | with_reducible refine s_next ?_
  | with_reducible refine s_brk ?_
  | with_reducible refine s_cont ?_
  | with_reducible refine s_drop ?_
  | with_reducible refine s_par ?_
  | with_reducible refine s_par3 ?_
  | ((with_reducible refine s_p2 ?_); dsimp only [List.set])
  | ((with_reducible refine s_p3 ?_); dsimp only [List.set])
  | with_reducible refine f_r1 ?_
  | with_reducible refine f_r2 ?_
  | with_reducible refine f_l ?_
  | with_reducible refine f_t ?_
  | with_reducible refine f_s ?_
  | with_reducible refine c_r1 ?_
  | with_reducible refine c_r2 ?_
  | with_reducible refine c_l ?_
  | with_reducible refine c_t ?_
  | with_reducible refine c_s ?_
  | with_reducible refine x_tst ?_
  | with_reducible refine x_tru ?_
  | with_reducible refine x_truB ?_
  | with_reducible refine x_bl2 ?_
  | with_reducible refine x_int ?_
  | with_reducible refine x_str ?_
  | with_reducible refine x_not ?_
  | with_reducible refine x_and ?_
  | with_reducible refine x_or ?_
  | with_reducible refine x_andV ?_
  | with_reducible refine x_orV ?_
  | with_reducible refine x_notV ?_
  | with_reducible refine x_if ?_
  | with_reducible refine x_yes ?_
  | with_reducible refine x_un ?_
  | with_reducible refine x_tup ?_
  | with_reducible refine x_lst ?_
  | with_reducible refine x_callK ?_
  | with_reducible refine x_callK0 ?_
  | with_reducible refine x_bm ?_
  | with_reducible refine x_bm0 ?_
  | with_reducible refine x_tyS ?_
  | with_reducible refine x_sl ?_
  | with_reducible refine x_nopart ?_
  | with_reducible refine x_part ?_
  | with_reducible refine x_fmt0 ?_
  | with_reducible refine x_gc ?_
  | with_reducible refine x_gz ?_
  | with_reducible refine x_ckw ?_
  | with_reducible refine x_fmt ?_
  | with_reducible refine x_chain ?_
  | with_reducible refine a_ii ?_
  | ((with_reducible refine sl_to ?rda ?rdb ?_); (case rda => walk_at "len"); (case rdb => walk_at "len"))
  | ((with_reducible refine sl_from ?rda ?rdb ?_); (case rda => walk_at "len"); (case rdb => walk_at "len"))
  | ((with_reducible refine sl_mid ?rda ?rdb ?rdc ?_); (case rda => walk_at "len"); (case rdb => walk_at "len"); (case rdc => walk_at "len"))
  | ((with_reducible refine a_SS ?rda ?_); (case rda => walk_at "len"))
  | ((with_reducible refine ln_S ?rda ?_); (case rda => walk_at "len"))
  | with_reducible refine e_SS ?_
  | with_reducible refine ne_SS ?_
  | with_reducible refine s_ii ?_
  | ((with_reducible refine md_ii ?rdc ?_); (case rdc => first | decide | assumption | omega))
  | with_reducible refine n_i ?_
  | with_reducible refine e_ii ?_
  | with_reducible refine e_bb ?_
  | with_reducible refine ne_ii ?_
  | with_reducible refine ne_bb ?_
  | with_reducible refine lt_ii ?_
  | with_reducible refine lt_ss ?_
  | with_reducible refine le_ii ?_
  | with_reducible refine le_ss ?_
  | with_reducible refine gt_ii ?_
  | with_reducible refine gt_ss ?_
  | with_reducible refine ge_ii ?_
  | with_reducible refine e_ss ?_
  | with_reducible refine ne_ss ?_
  | with_reducible refine is_N ?_
  | with_reducible refine is_T ?_
  | with_reducible refine is_B ?_
  | with_reducible refine isn_N ?_
  | with_reducible refine isn_T ?_
  | with_reducible refine isn_B ?_
  | with_reducible refine in_s ?_
  | with_reducible refine nin_s ?_
  | with_reducible refine i_i ?_
  | with_reducible refine i_b ?_
  | with_reducible refine ab_i ?_
  | with_reducible refine mx_ii ?_
  | with_reducible refine mn_ii ?_
  | with_reducible refine ty_N ?_
  | with_reducible refine ty_B ?_
  | with_reducible refine ty_I ?_
  | with_reducible refine ty_S ?_
  | with_reducible refine ma_s ?_
  | with_reducible refine mp_s ?_
  | with_reducible refine mdg_s ?_
  | with_reducible refine mal_s ?_
  | with_reducible refine mlo_s ?_
  | with_reducible refine c_er ?_
  | with_reducible refine c_es ?_
  | with_reducible refine mf_s ?_
  | with_reducible refine iteT ?_
  | with_reducible refine iteF ?_
  | with_reducible refine iteNt ?_
  | with_reducible refine iteNf ?_
  | with_reducible refine iteTd (by decide) ?_
  | with_reducible refine iteFd (by decide) ?_
  | with_reducible refine iteNd (by decide) ?_
  | with_reducible refine iteNdF (by decide) ?_
  | ((with_reducible refine iteFd ?rdn ?_); (case rdn => (intro rdz; cases rdz; done)))
  | ((with_reducible refine iteNdF ?rdn ?_); (case rdn => (intro rdz; cases rdz; done))))
local macro_rules | `(tactic| walk_at "rd") => `(tactic| (repeat walk_at "rd1"))
section
variable {P : Program} {w : World} {K : PySem.W.Frag} {mg : Str → Option Value} {base : Heap}
/-! what a cut can leave, index by index -/
def OffAt (H : Hp) (as : List Addr) (f : Nat → List (List Nat)) : Prop := ∀ (i : Nat) (a : Addr), as[i]? = some a → H a = some (.lst (tv (f i)))
def sp_offers (C : Addr) (K : PySem.W.Frag) : Sp := fun vs H Q _ => ∃ (d : Addr) (c : Cf), vs = [.ref d] ∧ DiskAt K C H d c ∧ ∀ D as H', Same H H' → H' D = some (.lst (as.map V.ref)) → as.length = c.im.length → OffAt H' as (newL c.im c.pe) → Q (.ref D) H'
theorem ok_offers (Y : Fx K mg) : FnOk P w K mg base CX0 1 Y.a_Disk_offers Y.fd_Disk_offers ["self"] (sp_offers Y.C_Disk K) := by
  refine Y.F_Disk_offers.ok sc_Disk_offers (fun vs H Q E h => ?_) (fun cdv A outer s H vs Q E hr h => ?_)
  · obtain ⟨d, c, rfl, _⟩ := h
    rfl
  · obtain ⟨d, c, rfl, hD, q⟩ := h
    obtain ⟨h0, dx, ia, pa, hd, hi, hp⟩ := hD
    have hiS := im_sq hi
    obtain ⟨pa', us, e, hps, hpd⟩ := dp_tup' hp
    cases e
    have hul : us.length = c.pe.length := by rw [dpAll_len hpd, List.length_map]
    refine ⟨_, b_Disk_offers Y hr, ?_⟩
    show t_Disk_offers K _ [some (.ref d), none, none, none] H
    unfold t_Disk_offers
    walk_at "rd"
    refine ⟨d, _, dx, _, _, rfl, hd, Y.c_Disk, Y.n_Disk_image, lk_im, ?_⟩
    refine lcT_mk hiS (fun D i H' => Same H H' ∧ ∃ as : List Addr, as.length = i ∧ H' D = some (.lst (as.map V.ref)) ∧ (∀ (j : Nat) (a : Addr), as[j]? = some a → H a = none ∧ a ≠ D) ∧ (∀ (i j : Nat) (a : Addr), as[i]? = some a → as[j]? = some a → i = j) ∧ OffAt H' as (newL c.im [])) (fun D hDn => ⟨same_upd hDn, [], rfl, upd_same, fun j a e => (by cases j <;> cases e), fun i j a e => (by cases i <;> cases e), fun j a e => (by cases j <;> cases e)⟩) (fun D i H' hDn _ hP => same_sqt hP.1 hiS) (fun D i x H' hDn hx hP => ?_) (fun D H' hDn hP => ?_)
    · obtain ⟨hS, as, hal, hDk, hfr, hinj, hof⟩ := hP
      obtain ⟨l, hl, rfl⟩ := tv_get hx
      have hil := (List.getElem?_eq_some_iff.mp hl).1
      have hl200 := h0.l200
      refine ⟨rfl, ?_⟩
      walk_at "rd"
      refine ⟨by show 1 ≤ sizeLine; decide, fun p hpn => ?_⟩
      have hpD : p ≠ D := fun z => by rw [z, hDk] at hpn; cases hpn
      have hap : ∀ j a, as[j]? = some a → a ≠ p := fun j a e z => by
        have := hof j a e
        rw [z, hpn] at this
        cases this
      refine ⟨as.map V.ref, same_upd hpn _ _ hDk, ?_, same_mut (same_new hS hpn) hDn, as ++ [p], ?_, ?_, fun j a e => ?_, fun i2 j a e1 e2 => ?_, fun j a e => ?_⟩
      · rw [List.length_map, hal]
        exact Nat.lt_of_le_of_lt (show i ≤ 200 by omega) (by decide)
      · rw [List.length_append, hal]
        rfl
      · rw [upd_same, List.map_append]
        rfl
      · by_cases hj : j < as.length
        · rw [List.getElem?_append_left hj] at e
          exact hfr j a e
        · rw [List.getElem?_append_right (by omega)] at e
          have hj2 := (List.getElem?_eq_some_iff.mp e).1
          have hj3 : j - as.length = 0 := by simp at hj2; omega
          rw [hj3] at e
          cases e
          exact ⟨hS.free hpn, hpD⟩
      · have key : ∀ j, (as ++ [p])[j]? = some a → (j < as.length ∧ as[j]? = some a) ∨ (j = as.length ∧ a = p) := fun j e => by
          by_cases hj : j < as.length
          · rw [List.getElem?_append_left hj] at e
            exact .inl ⟨hj, e⟩
          · rw [List.getElem?_append_right (by omega)] at e
            have hj2 := (List.getElem?_eq_some_iff.mp e).1
            have hj3 : j - as.length = 0 := by simp at hj2; omega
            rw [hj3] at e
            cases e
            exact .inr ⟨by omega, rfl⟩
        rcases key i2 e1 with ⟨a1, a2⟩ | ⟨a1, a2⟩ <;> rcases key j e2 with ⟨b1, b2⟩ | ⟨b1, b2⟩
        · exact hinj _ _ _ a2 b2
        · exact absurd b2 (hap _ _ a2)
        · exact absurd a2 (hap _ _ b2)
        · omega
      · by_cases hj : j < as.length
        · rw [List.getElem?_append_left hj] at e
          rw [upd_ne (hfr j a e).2]
          exact same_upd hpn _ _ (hof j a e)
        · rw [List.getElem?_append_right (by omega)] at e
          have hj2 := (List.getElem?_eq_some_iff.mp e).1
          have hj3 : j - as.length = 0 := by simp at hj2; omega
          rw [hj3] at e
          cases e
          rw [upd_ne hpD, upd_same]
          have : j = i := by omega
          subst this
          show some (HO.lst [V.str (S l)]) = some (.lst (tv [c.im.getD j []]))
          rw [List.getD_eq_getElem?_getD, hl]
          rfl
    · obtain ⟨hS, as, hal, hDk, hfr, hinj, hof⟩ := hP
      rw [tv_len] at hal
      walk_at "rd"
      refine ⟨d, _, dx, _, _, rfl, hS _ _ hd, Y.c_Disk, Y.n_Disk_pending, lk_pe, ?_⟩
      refine forT_mk (same_sqt hS hps) (fun k σ H' => ∃ a b, σ = [some (.ref d), some (.ref D), a, b] ∧ Same H H' ∧ H' D = some (.lst (as.map V.ref)) ∧ OffAt H' as (newL c.im (c.pe.take k))) ⟨_, _, rfl, hS, hDk, hof⟩ (fun k σ H' _ hP => by obtain ⟨a, b, _, hS, _⟩ := hP; exact same_sqt hS hps) (fun k x σ H' hx hP => ?_) (fun σ H' hP => ?_)
      · obtain ⟨a, b, rfl, hS, hDk, hof⟩ := hP
        obtain ⟨en, p, he, rfl, hs2⟩ := pe_item hpd hx
        have hen := (h0.pb en (List.mem_of_getElem? he)).1
        have hpl := h0.pl
        refine gt_T (same_sqt hS hs2) rfl ?_
        refine x_gc (s_gn (x_gc (s_gn (x_gz ?_))))
        walk_at "rd"
        have hae : as[en.1]? = some as[en.1] := List.getElem?_eq_getElem (by omega)
        generalize as[en.1]'(by omega) = a0 at hae
        refine ix_L (lst_of hDk) (at_nat (v := .ref a0) (by omega) (by rw [List.getElem?_map, Int.toNat_natCast, hae]; rfl)) ?_
        have h1 := hof _ _ hae
        refine x_tyL (lst_of h1) ?_
        walk_at "rd"
        refine ap_L h1 ?_ ?_
        · rw [tv_len]
          have := (newL_len (im := c.im) (pe := c.pe.take k) (i := en.1)).2
          rw [List.length_take] at this
          omega
        · obtain ⟨f1, f2⟩ := hfr _ _ hae
          refine ⟨_, _, rfl, same_mut hS f1, by rw [upd_ne (Ne.symm f2)]; exact hDk, fun j a2 e => ?_⟩
          rw [take_snoc he, newL_snoc]
          by_cases hj : en.1 = j
          · subst hj
            rw [hae] at e
            cases e
            rw [if_pos rfl, upd_same, tv_app]
            rfl
          · rw [if_neg hj, List.append_nil, upd_ne (fun z => hj (hinj _ _ _ hae (by rw [← z]; exact e)))]
            exact hof j a2 e
      · obtain ⟨a, b, rfl, hS, hDk, hof⟩ := hP
        rw [hul, List.take_length] at hof
        walk_at "rd"
        exact q D as H' hS hDk hal hof
/-- the chosen ones -/
def chI (im : List (List Nat)) (pe : List (Nat × List Nat)) (cs : List Nat) : List (List Nat) := (List.range im.length).map fun i => (newL im pe i).getD (cs.getD i 0) []
def sp_behind (C : Addr) (K : PySem.W.Frag) : Sp := fun vs H Q _ => ∃ (d : Addr) (c : Cf) (p : Addr) (cs : List Nat), vs = [.ref d, .ref p] ∧ DiskAt K C H d c ∧ SqT K H p (kv cs) ∧ cs.length = c.im.length ∧ (∀ (i n : Nat), cs[i]? = some n → n < (newL c.im c.pe i).length) ∧ ∀ r H', Same H H' → SqT K H' r (tv (chI c.im c.pe cs)) → Q (.ref r) H'
theorem ok_behind (Y : Fx K mg) : FnOk P w K mg base CX0 2 Y.a_Disk_behind Y.fd_Disk_behind ["self", "choice"] (sp_behind Y.C_Disk K) := by
  refine Y.F_Disk_behind.ok sc_Disk_behind (fun vs H Q E h => ?_) (fun cdv A outer s H vs Q E hr h => ?_)
  · obtain ⟨d, c, p, cs, rfl, _⟩ := h
    rfl
  · obtain ⟨d, c, p, cs, rfl, hD, hcs, hcl, hcn, q⟩ := h
    have hD0 := hD
    obtain ⟨h0, dx, ia, pa, hd, hi, hp⟩ := hD
    have hl200 := h0.l200
    have hpl := h0.pl
    refine ⟨_, b_Disk_behind Y (ok_offers Y) (ok_is_number Y) hr, ?_⟩
    show t_Disk_behind K Y _ _ _ [some (.ref d), some (.ref p), none, none, none] H
    unfold t_Disk_behind
    walk_at "rd"
    refine ⟨d, dx, _, rfl, hd, no_offers, ?_⟩
    walk_at "rd"
    refine ⟨d, c, rfl, hD0, fun D as H1 hS hDk hal hof => ?_⟩
    have hcs1 := same_sqt hS hcs
    walk_at "rd"
    refine ty_T hcs1 ?_
    walk_at "rd"
    refine ln_t hcs1 ?_
    walk_at "rd"
    refine ln_l (lst_of hDk) ?_
    rw [kv_len, List.length_map, hal, hcl]
    walk_at "rd"
    rw [show (!decide ((c.im.length : Int) = (c.im.length : Int))) = false by simp]
    walk_at "rd"
    have ref_get : ∀ {as : List Addr} {i : Nat} {y : V}, (as.map V.ref)[i]? = some y → ∃ a, as[i]? = some a ∧ y = .ref a := fun {as i y} h => by
      rw [List.getElem?_map] at h
      cases e : as[i]? with
      | none => rw [e] at h; cases h
      | some a => rw [e] at h; exact ⟨a, rfl, (Option.some.inj h).symm⟩
    have kv_get : ∀ {i : Nat} {x : V}, (kv cs)[i]? = some x → ∃ n : Nat, cs[i]? = some n ∧ x = .int n := fun {i x} h => by
      unfold kv at h
      rw [List.getElem?_map] at h
      cases e : cs[i]? with
      | none => rw [e] at h; cases h
      | some a => rw [e] at h; exact ⟨a, rfl, (Option.some.inj h).symm⟩
    refine forZM_mk hcs1 (lst_of hDk) (by rw [kv_len, List.length_map, hal, hcl]) (fun k σ H' => Same H1 H' ∧ ∃ a b, σ = [some (.ref d), some (.ref p), some (.ref D), a, b]) ⟨fun _ _ h => h, none, none, rfl⟩ (fun k σ H' hP => ⟨same_sqt hP.1 hcs1, lst_of (hP.1 _ _ hDk)⟩) (fun k x y T σ H' hx hy hP hT => ?_) (fun σ H' hP => ?_)
    · obtain ⟨hS2, a, b, rfl⟩ := hP
      obtain ⟨n, hn, rfl⟩ := kv_get hx
      obtain ⟨o, ho, rfl⟩ := ref_get hy
      have hnl := hcn _ _ hn
      have hS3 := same_new hS2 hT (o := .tup [.int n, .ref o])
      refine gt_T (tup_of upd_same) rfl ?_
      refine x_gc (s_gn (x_gc (s_gn (x_gz ?_))))
      walk_at "rd"
      refine ln_l (lst_of (hS3 _ _ (hof _ _ ho))) ?_
      rw [tv_len]
      walk_at "rd"
      refine ⟨_, _, _, _, rfl, .int n, ?_⟩
      show ∃ k, TruV K (.bl (decide ((0 : Int) ≤ (n : Int)) && decide ((n : Int) ≤ _))) _ k ∧ _
      rw [decide_eq_true (show (0 : Int) ≤ (n : Int) by omega), decide_eq_true (show (n : Int) ≤ ((newL c.im c.pe k).length : Int) - 1 by omega)]
      show ∃ k, TruV K (.bl true) _ k ∧ _
      walk_at "rd"
      exact ⟨hS3, _, _, rfl⟩
    · obtain ⟨hS2, a, b, rfl⟩ := hP
      have hcs2 := same_sqt hS2 hcs1
      walk_at "rd"
      refine lcZM_mk hcs2 (lst_of (hS2 _ _ hDk)) (by rw [kv_len, List.length_map, hal, hcl]) (fun D2 i H3 => Same H' H3 ∧ H3 D2 = some (.lst (tv ((chI c.im c.pe cs).take i)))) (fun D2 hD2 => ⟨same_upd hD2, upd_same⟩) (fun D2 i H3 hD2 hP => ⟨same_sqt hP.1 hcs2, lst_of (hP.1 _ _ (hS2 _ _ hDk))⟩) (fun D2 i x y T H3 hD2 hx hy hP hT => ?_) (fun D2 H3 hD2 hP => ?_)
      · obtain ⟨hS3, hk3⟩ := hP
        obtain ⟨n, hn, rfl⟩ := kv_get hx
        obtain ⟨o, ho, rfl⟩ := ref_get hy
        have hnl := hcn _ _ hn
        have hil : i < c.im.length := by have := (List.getElem?_eq_some_iff.mp hn).1; omega
        have hS4 := same_new hS3 hT (o := .tup [.int n, .ref o])
        refine gt_T (tup_of upd_same) rfl ?_
        refine x_gc (s_gn (x_gc (s_gn (x_gz ?_))))
        refine ⟨rfl, ?_⟩
        walk_at "rd"
        refine ix_L (lst_of (hS4 _ _ (hS2 _ _ (hof _ _ ho)))) (at_nat (v := .str (S ((newL c.im c.pe i).getD n []))) (by omega) ?_) ?_
        · unfold tv
          rw [List.getElem?_map, Int.toNat_natCast, List.getElem?_eq_getElem hnl, List.getD_eq_getElem?_getD, List.getElem?_eq_getElem hnl]
          rfl
        · refine ⟨_, same_upd hT _ _ hk3, ?_, same_mut hS4 hD2, ?_⟩
          · rw [tv_len, List.length_take]
            exact Nat.lt_of_le_of_lt (show min i _ ≤ 200 by omega) (by decide)
          · have hch : (chI c.im c.pe cs)[i]? = some ((newL c.im c.pe i).getD n []) := by
              unfold chI
              rw [List.getElem?_map, List.getElem?_range hil]
              show some ((newL c.im c.pe i).getD (cs.getD i 0) []) = _
              rw [List.getD_eq_getElem?_getD (l := cs), hn]
              rfl
            rw [upd_same, take_snoc hch, tv_app]
            rfl
      · obtain ⟨hS3, hk3⟩ := hP
        have hfull : (chI c.im c.pe cs).take (kv cs).length = chI c.im c.pe cs := List.take_of_length_le (by unfold chI; rw [List.length_map, List.length_range, kv_len, hcl]; exact Nat.le_refl _)
        rw [hfull] at hk3
        walk_at "rd"
        refine tu_L (lst_of hk3) fun r hr => ?_
        exact q r _ ((hS.trans hS2).trans (same_new hS3 hr)) (tup_of upd_same)
end
end My

set_option Elab.async false
set_option linter.all false
set_option maxRecDepth 100000
set_option maxHeartbeats 1000000
namespace My
open PySem PySem.Spec PyProof.Rows L2
local macro_rules | `(tactic| walk_at "len") => `(tactic| first | assumption | omega | decide | (simp only [List.length_append, List.length_take, List.length_drop, List.length_cons, List.length_nil, List.length_replicate]; omega))
local macro_rules | `(tactic| walk_at "side") => `(tactic| first | assumption | exact Nat.zero_le _ | decide | omega)
local macro_rules | `(tactic| walk_at "rd1") => `(tactic| first
  | with_reducible refine s_seq ?_
  | with_reducible refine x_gsub ?_
  | with_reducible refine s_asg ?_
  | ((with_reducible refine s_gn ?_); dsimp only [List.set])
  | ((with_reducible refine x_var (v := ?rdv) ?rdhv ?_); (case rdhv => rfl))
  | with_reducible refine x_c ?_
  | with_reducible refine x_op ?_
  | with_reducible refine x_cons ?_
  | with_reducible refine x_nil ?_
  | with_reducible refine x_cb ?_
  | with_reducible refine x_call ?_
  | with_reducible refine x_callS ?_
  | with_reducible refine x_revT ?_
  | with_reducible refine x_dget ?_
  | with_reducible refine x_makeS ?_
  | with_reducible refine x_make ?_
  | with_reducible refine x_makeKS ?_
  | with_reducible refine x_methS ?_
  | with_reducible refine x_meth ?_
  | with_reducible refine x_methK ?_
  | with_reducible refine x_fld ?_
  | with_reducible refine s_fld ?_
  | with_reducible refine f_rt ?_
  | with_reducible refine f_zm ?_
  | with_reducible refine c_zm ?_
  | with_reducible refine x_din ?_
  | with_reducible refine x_dnotin ?_
  | with_reducible refine s_dput ?_
  | with_reducible refine x_dnew ?_
  | with_reducible refine s_try ?_
  | with_reducible refine s_raise ?_
  | with_reducible refine s_if ?_
  | with_reducible refine s_ret ?_
  | with_reducible refine s_retN ?_
  | with_reducible refine s_next ?_
  | with_reducible refine s_brk ?_
  | with_reducible refine s_cont ?_
  | with_reducible refine s_drop ?_
  | with_reducible refine s_par ?_
  | with_reducible refine s_par3 ?_
  | ((with_reducible refine s_p2 ?_); dsimp only [List.set])
  | ((with_reducible refine s_p3 ?_); dsimp only [List.set])
  | with_reducible refine f_r1 ?_
  | with_reducible refine f_r2 ?_
  | with_reducible refine f_l ?_
  | with_reducible refine f_t ?_
  | with_reducible refine f_s ?_
  | with_reducible refine c_r1 ?_
  | with_reducible refine c_r2 ?_
  | with_reducible refine c_l ?_
  | with_reducible refine c_t ?_
  | with_reducible refine c_s ?_
  | with_reducible refine x_tst ?_
  | with_reducible refine x_tru ?_
  | with_reducible refine x_truB ?_
  | with_reducible refine x_bl2 ?_
  | with_reducible refine x_int ?_
  | with_reducible refine x_str ?_
  | with_reducible refine x_not ?_
  | with_reducible refine x_and ?_
  | with_reducible refine x_or ?_
  | with_reducible refine x_andV ?_
  | with_reducible refine x_orV ?_
  | with_reducible refine x_notV ?_
  | with_reducible refine x_if ?_
  | with_reducible refine x_yes ?_
  | with_reducible refine x_un ?_
  | with_reducible refine x_tup ?_
  | with_reducible refine x_lst ?_
  | with_reducible refine x_callK ?_
  | with_reducible refine x_callK0 ?_
  | with_reducible refine x_bm ?_
  | with_reducible refine x_bm0 ?_
  | with_reducible refine x_tyS ?_
  | with_reducible refine x_sl ?_
  | with_reducible refine x_nopart ?_
  | with_reducible refine x_part ?_
  | with_reducible refine x_fmt0 ?_
  | with_reducible refine x_gc ?_
  | with_reducible refine x_gz ?_
  | with_reducible refine x_ckw ?_
  | with_reducible refine x_fmt ?_
  | with_reducible refine x_chain ?_
  | with_reducible refine a_ii ?_
  | ((with_reducible refine sl_to ?rda ?rdb ?_); (case rda => walk_at "len"); (case rdb => walk_at "len"))
  | ((with_reducible refine sl_from ?rda ?rdb ?_); (case rda => walk_at "len"); (case rdb => walk_at "len"))
  | ((with_reducible refine sl_mid ?rda ?rdb ?rdc ?_); (case rda => walk_at "len"); (case rdb => walk_at "len"); (case rdc => walk_at "len"))
  | ((with_reducible refine a_SS ?rda ?_); (case rda => walk_at "len"))
  | ((with_reducible refine ln_S ?rda ?_); (case rda => walk_at "len"))
  | with_reducible refine e_SS ?_
  | with_reducible refine ne_SS ?_
  | with_reducible refine s_ii ?_
  | ((with_reducible refine md_ii ?rdc ?_); (case rdc => first | decide | assumption | omega))
  | with_reducible refine n_i ?_
  | with_reducible refine e_ii ?_
  | with_reducible refine e_bb ?_
  | with_reducible refine ne_ii ?_
  | with_reducible refine ne_bb ?_
  | with_reducible refine lt_ii ?_
  | with_reducible refine lt_ss ?_
  | with_reducible refine le_ii ?_
  | with_reducible refine le_ss ?_
  | with_reducible refine gt_ii ?_
  | with_reducible refine gt_ss ?_
  | with_reducible refine ge_ii ?_
  | with_reducible refine e_ss ?_
  | with_reducible refine ne_ss ?_
  | with_reducible refine is_N ?_
  | with_reducible refine is_T ?_
  | with_reducible refine is_B ?_
  | with_reducible refine isn_N ?_
  | with_reducible refine isn_T ?_
  | with_reducible refine isn_B ?_
  | with_reducible refine in_s ?_
  | with_reducible refine nin_s ?_
  | with_reducible refine i_i ?_
  | with_reducible refine i_b ?_
  | with_reducible refine ab_i ?_
  | with_reducible refine mx_ii ?_
  | with_reducible refine mn_ii ?_
  | with_reducible refine ty_N ?_
  | with_reducible refine ty_B ?_
  | with_reducible refine ty_I ?_
  | with_reducible refine ty_S ?_
  | with_reducible refine ma_s ?_
  | with_reducible refine mp_s ?_
  | with_reducible refine mdg_s ?_
  | with_reducible refine mal_s ?_
  | with_reducible refine mlo_s ?_
  | with_reducible refine c_er ?_
  | with_reducible refine c_es ?_
  | with_reducible refine mf_s ?_
  | with_reducible refine iteT ?_
  | with_reducible refine iteF ?_
  | with_reducible refine iteNt ?_
  | with_reducible refine iteNf ?_
  | with_reducible refine iteTd (by decide) ?_
  | with_reducible refine iteFd (by decide) ?_
  | with_reducible refine iteNd (by decide) ?_
  | with_reducible refine iteNdF (by decide) ?_
  | ((with_reducible refine iteFd ?rdn ?_); (case rdn => (intro rdz; cases rdz; done)))
  | ((with_reducible refine iteNdF ?rdn ?_); (case rdn => (intro rdz; cases rdz; done))))
local macro_rules | `(tactic| walk_at "rd") => `(tactic| (repeat walk_at "rd1"))
section
variable {P : Program} {w : World} {K : PySem.W.Frag} {mg : Str → Option Value} {base : Heap}
/-! a new disk -/
def sp_init (C : Addr) (K : PySem.W.Frag) : Sp := fun vs H Q _ => ∃ (d dx ia : Addr) (im : List (List Nat)) (sg : Nat) (st : Option Nat), vs = [.ref d, .ref ia, .int sg, stV st] ∧ H d = some (.ins C dx []) ∧ SqT K H ia (tv im) ∧ 4 ≤ im.length ∧ im.length ≤ 200 ∧ 100 ≤ sg ∧ sg ≤ 1000 ∧ Blk sg im ∧
  ∀ H', Fr [d] H H' → DiskAt K C H' d ⟨im, [], sg, st, false⟩ → Q .non H'
theorem ok_init (Y : Fx K mg) : FnOk P w K mg base CX0 4 Y.a_Disk_init Y.fd_Disk_init ["self", "image", "signs", "steps"] (sp_init Y.C_Disk K) := by
  refine Y.F_Disk_init.ok sc_Disk_init (fun vs H Q E h => ?_) (fun cdv A outer s H vs Q E hr h => ?_)
  · obtain ⟨d, dx, ia, im, sg, st, rfl, _⟩ := h
    rfl
  · obtain ⟨d, dx, ia, im, sg, st, rfl, hd, hi, h4, h200, hs0, hs1, hb, q⟩ := h
    refine ⟨_, b_Disk_init Y (ok_check_from Y) (ok_check_image Y) (ok_check_signs Y) hr, ?_⟩
    show t_Disk_init K _ _ _ _ [some (.ref d), some (.ref ia), some (.int sg), some (stV st)] H
    unfold t_Disk_init
    walk_at "rd"
    refine ⟨sg, rfl, by omega, by omega, ?_⟩
    walk_at "rd"
    refine ⟨ia, im, sg, rfl, hi, h4, h200, hs1, hb, fun H1 hS => ?_⟩
    have hd1 := hS _ _ hd
    have hi1 := same_sqt hS hi
    have fin : ∀ D : Ends, D.nx = (fun _ H' => Q .non H') → (tSeq (sFld K (tVar 0) (tVar 1) "image")
    (tSeq (sFld K (tVar 0) (tVar 2) "signs")
    (tSeq (sFld K (tVar 0) (tTup tNil) "pending")
    (tSeq (sFld K (tVar 0) (tVar 3) "steps")
    (sFld K (tVar 0) (tC (.bl false)) "out"))))) D [some (.ref d), some (.ref ia), some (.int sg), some (stV st)] H1 := by
      rintro ⟨n, rt, bk, ct⟩ hn
      have hn' : n = fun _ H' => Q .non H' := hn
      subst hn'
      walk_at "rd"
      refine ⟨d, _, dx, [], rfl, hd1, Y.c_Disk, Y.n_Disk_image, (by decide), ?_⟩
      have hF2 : Fr [d] H1 (upd H1 d (.ins Y.C_Disk dx (putF "image" (.ref ia) []))) := (Fr.refl H1).upd (List.mem_singleton_self d)
      have hd2 : (upd H1 d (.ins Y.C_Disk dx (putF "image" (.ref ia) []))) d = some (.ins Y.C_Disk dx [("image", .ref ia)]) := upd_same
      generalize upd H1 d (.ins Y.C_Disk dx (putF "image" (.ref ia) [])) = H2 at hF2 hd2
      walk_at "rd"
      refine ⟨d, _, dx, _, rfl, hd2, Y.c_Disk, Y.n_Disk_signs, (by show 1 < 1000; decide), ?_⟩
      have hF3 := hF2.upd (o := .ins Y.C_Disk dx (putF "signs" (.int sg) [("image", .ref ia)])) (List.mem_singleton_self d)
      have hd3 : (upd H2 d (.ins Y.C_Disk dx (putF "signs" (.int sg) [("image", .ref ia)]))) d = some (.ins Y.C_Disk dx [("image", .ref ia), ("signs", .int sg)]) := upd_same
      generalize upd H2 d (.ins Y.C_Disk dx (putF "signs" (.int sg) [("image", .ref ia)])) = H3 at hF3 hd3
      walk_at "rd"
      refine ⟨Nat.zero_le _, fun p hp => ?_⟩
      have hd4 := same_upd hp (o := .tup []) _ _ hd3
      have hp4 : (upd H3 p (.tup [])) p = some (.tup []) := upd_same
      have hF4 := hF3.new hp (o := .tup [])
      have hpd : p ≠ d := fun z => by rw [z, hd3] at hp; cases hp
      generalize upd H3 p (.tup []) = H4 at hd4 hp4 hF4
      walk_at "rd"
      refine ⟨d, _, dx, _, rfl, hd4, Y.c_Disk, Y.n_Disk_pending, (by show 2 < 1000; decide), ?_⟩
      have hF5 := hF4.upd (o := .ins Y.C_Disk dx (putF "pending" (.ref p) [("image", .ref ia), ("signs", .int sg)])) (List.mem_singleton_self d)
      have hd5 : (upd H4 d (.ins Y.C_Disk dx (putF "pending" (.ref p) [("image", .ref ia), ("signs", .int sg)]))) d = some (.ins Y.C_Disk dx [("image", .ref ia), ("signs", .int sg), ("pending", .ref p)]) := upd_same
      have hp5 : (upd H4 d (.ins Y.C_Disk dx (putF "pending" (.ref p) [("image", .ref ia), ("signs", .int sg)]))) p = some (.tup []) := by rw [upd_ne hpd]; exact hp4
      generalize upd H4 d (.ins Y.C_Disk dx (putF "pending" (.ref p) [("image", .ref ia), ("signs", .int sg)])) = H5 at hd5 hF5 hp5
      walk_at "rd"
      refine ⟨d, _, dx, _, rfl, hd5, Y.c_Disk, Y.n_Disk_steps, (by show 3 < 1000; decide), ?_⟩
      have hF6 := hF5.upd (o := .ins Y.C_Disk dx (putF "steps" (stV st) [("image", .ref ia), ("signs", .int sg), ("pending", .ref p)])) (List.mem_singleton_self d)
      have hd6 : (upd H5 d (.ins Y.C_Disk dx (putF "steps" (stV st) [("image", .ref ia), ("signs", .int sg), ("pending", .ref p)]))) d = some (.ins Y.C_Disk dx [("image", .ref ia), ("signs", .int sg), ("pending", .ref p), ("steps", stV st)]) := upd_same
      have hp6 : (upd H5 d (.ins Y.C_Disk dx (putF "steps" (stV st) [("image", .ref ia), ("signs", .int sg), ("pending", .ref p)]))) p = some (.tup []) := by rw [upd_ne hpd]; exact hp5
      generalize upd H5 d (.ins Y.C_Disk dx (putF "steps" (stV st) [("image", .ref ia), ("signs", .int sg), ("pending", .ref p)])) = H6 at hd6 hF6 hp6
      walk_at "rd"
      refine ⟨d, _, dx, _, rfl, hd6, Y.c_Disk, Y.n_Disk_out, (by show 4 < 1000; decide), ?_⟩
      have hF7 := hF6.upd (o := .ins Y.C_Disk dx (putF "out" (.bl false) [("image", .ref ia), ("signs", .int sg), ("pending", .ref p), ("steps", stV st)])) (List.mem_singleton_self d)
      have hL : ∀ x ∈ [d], ∀ o, H1 x = some o → NoT o := fun x hx o e => by
        rw [List.mem_singleton.mp hx, hd1] at e
        cases e
        exact True.intro
      refine q _ ((Fr.of hS).trans hF7) ⟨⟨h4, h200, hs0, hs1, hb, Nat.zero_le _, fun e he => by cases he⟩, dx, ia, p, upd_same, fr_dp hF7 hL (tup_im _) (sq_im hi1), .tup (tup_of ?_) .nil⟩
      rw [upd_ne hpd]
      exact hp6
    walk_at "rd"
    cases st with
    | none =>
      refine iteNd rfl ?_
      refine s_next ?_
      exact fin _ rfl
    | some n =>
      walk_at "rd"
      refine ⟨n, 0, rfl, by omega, ?_⟩
      exact fin _ rfl
end
end My

set_option Elab.async false
set_option linter.all false
set_option maxRecDepth 100000
set_option maxHeartbeats 1000000
namespace My
open PySem PySem.Spec PyProof.Rows L2
local macro_rules | `(tactic| walk_at "len") => `(tactic| first | assumption | omega | decide | (simp only [List.length_append, List.length_take, List.length_drop, List.length_cons, List.length_nil, List.length_replicate]; omega))
local macro_rules | `(tactic| walk_at "side") => `(tactic| first | assumption | exact Nat.zero_le _ | decide | omega)
local macro_rules | `(tactic| walk_at "rd1") => `(tactic| first
  | with_reducible refine s_seq ?_
  | with_reducible refine x_gsub ?_
  | with_reducible refine s_asg ?_
  | ((with_reducible refine s_gn ?_); dsimp only [List.set])
  | ((with_reducible refine x_var (v := ?rdv) ?rdhv ?_); (case rdhv => rfl))
  | with_reducible refine x_c ?_
  | with_reducible refine x_op ?_
  | with_reducible refine x_cons ?_
  | with_reducible refine x_nil ?_
  | with_reducible refine x_cb ?_
  | with_reducible refine x_call ?_
  | with_reducible refine x_callS ?_
  | with_reducible refine x_revT ?_
  | with_reducible refine x_dget ?_
  | with_reducible refine x_makeS ?_
  | with_reducible refine x_make ?_
  | with_reducible refine x_makeKS ?_
  | with_reducible refine x_methS ?_
  | with_reducible refine x_meth ?_
  | with_reducible refine x_methK ?_
  | with_reducible refine x_fld ?_
  | with_reducible refine s_fld ?_
  | with_reducible refine f_rt ?_
  | with_reducible refine f_zm ?_
  | with_reducible refine c_zm ?_
  | with_reducible refine x_din ?_
  | with_reducible refine x_dnotin ?_
  | with_reducible refine s_dput ?_
  | with_reducible refine x_dnew ?_
  | with_reducible refine s_try ?_
  | with_reducible refine s_raise ?_
  | with_reducible refine s_if ?_
  | with_reducible refine s_ret ?_
  | with_reducible refine s_retN ?_
  | with_reducible refine s_next ?_
  | with_reducible refine s_brk ?_
  | with_reducible refine s_cont ?_
  | with_reducible refine s_drop ?_
  | with_reducible refine s_par ?_
  | with_reducible refine s_par3 ?_
  | ((with_reducible refine s_p2 ?_); dsimp only [List.set])
  | ((with_reducible refine s_p3 ?_); dsimp only [List.set])
  | with_reducible refine f_r1 ?_
  | with_reducible refine f_r2 ?_
  | with_reducible refine f_l ?_
  | with_reducible refine f_t ?_
  | with_reducible refine f_s ?_
  | with_reducible refine c_r1 ?_
  | with_reducible refine c_r2 ?_
  | with_reducible refine c_l ?_
  | with_reducible refine c_t ?_
  | with_reducible refine c_s ?_
  | with_reducible refine x_tst ?_
  | with_reducible refine x_tru ?_
  | with_reducible refine x_truB ?_
  | with_reducible refine x_bl2 ?_
  | with_reducible refine x_int ?_
  | with_reducible refine x_str ?_
  | with_reducible refine x_not ?_
  | with_reducible refine x_and ?_
  | with_reducible refine x_or ?_
  | with_reducible refine x_andV ?_
  | with_reducible refine x_orV ?_
  | with_reducible refine x_notV ?_
  | with_reducible refine x_if ?_
  | with_reducible refine x_yes ?_
  | with_reducible refine x_un ?_
  | with_reducible refine x_tup ?_
  | with_reducible refine x_lst ?_
  | with_reducible refine x_callK ?_
  | with_reducible refine x_callK0 ?_
  | with_reducible refine x_bm ?_
  | with_reducible refine x_bm0 ?_
  | with_reducible refine x_tyS ?_
  | with_reducible refine x_sl ?_
  | with_reducible refine x_nopart ?_
  | with_reducible refine x_part ?_
  | with_reducible refine x_fmt0 ?_
  | with_reducible refine x_gc ?_
  | with_reducible refine x_gz ?_
  | with_reducible refine x_ckw ?_
  | with_reducible refine x_fmt ?_
  | with_reducible refine x_chain ?_
  | with_reducible refine a_ii ?_
  | ((with_reducible refine sl_to ?rda ?rdb ?_); (case rda => walk_at "len"); (case rdb => walk_at "len"))
  | ((with_reducible refine sl_from ?rda ?rdb ?_); (case rda => walk_at "len"); (case rdb => walk_at "len"))
  | ((with_reducible refine sl_mid ?rda ?rdb ?rdc ?_); (case rda => walk_at "len"); (case rdb => walk_at "len"); (case rdc => walk_at "len"))
  | ((with_reducible refine a_SS ?rda ?_); (case rda => walk_at "len"))
  | ((with_reducible refine ln_S ?rda ?_); (case rda => walk_at "len"))
  | with_reducible refine e_SS ?_
  | with_reducible refine ne_SS ?_
  | with_reducible refine s_ii ?_
  | ((with_reducible refine md_ii ?rdc ?_); (case rdc => first | decide | assumption | omega))
  | with_reducible refine n_i ?_
  | with_reducible refine e_ii ?_
  | with_reducible refine e_bb ?_
  | with_reducible refine ne_ii ?_
  | with_reducible refine ne_bb ?_
  | with_reducible refine lt_ii ?_
  | with_reducible refine lt_ss ?_
  | with_reducible refine le_ii ?_
  | with_reducible refine le_ss ?_
  | with_reducible refine gt_ii ?_
  | with_reducible refine gt_ss ?_
  | with_reducible refine ge_ii ?_
  | with_reducible refine e_ss ?_
  | with_reducible refine ne_ss ?_
  | with_reducible refine is_N ?_
  | with_reducible refine is_T ?_
  | with_reducible refine is_B ?_
  | with_reducible refine isn_N ?_
  | with_reducible refine isn_T ?_
  | with_reducible refine isn_B ?_
  | with_reducible refine in_s ?_
  | with_reducible refine nin_s ?_
  | with_reducible refine i_i ?_
  | with_reducible refine i_b ?_
  | with_reducible refine ab_i ?_
  | with_reducible refine mx_ii ?_
  | with_reducible refine mn_ii ?_
  | with_reducible refine ty_N ?_
  | with_reducible refine ty_B ?_
  | with_reducible refine ty_I ?_
  | with_reducible refine ty_S ?_
  | with_reducible refine ma_s ?_
  | with_reducible refine mp_s ?_
  | with_reducible refine mdg_s ?_
  | with_reducible refine mal_s ?_
  | with_reducible refine mlo_s ?_
  | with_reducible refine c_er ?_
  | with_reducible refine c_es ?_
  | with_reducible refine mf_s ?_
  | with_reducible refine iteT ?_
  | with_reducible refine iteF ?_
  | with_reducible refine iteNt ?_
  | with_reducible refine iteNf ?_
  | with_reducible refine iteTd (by decide) ?_
  | with_reducible refine iteFd (by decide) ?_
  | with_reducible refine iteNd (by decide) ?_
  | with_reducible refine iteNdF (by decide) ?_
  | ((with_reducible refine iteFd ?rdn ?_); (case rdn => (intro rdz; cases rdz; done)))
  | ((with_reducible refine iteNdF ?rdn ?_); (case rdn => (intro rdz; cases rdz; done))))
local macro_rules | `(tactic| walk_at "rd") => `(tactic| (repeat walk_at "rd1"))
section
variable {P : Program} {w : World} {K : PySem.W.Frag} {mg : Str → Option Value} {base : Heap}
/-! the errors' names -/
inductive Er where | ix | bk | pw
def Er.nm : Er → List Nat
  | .ix => [73, 110, 118, 97, 108, 105, 100, 73, 110, 100, 101, 120]
  | .bk => [73, 110, 118, 97, 108, 105, 100, 66, 108, 111, 99, 107]
  | .pw => [80, 111, 119, 101, 114, 67, 117, 116]
def erC (Y : Fx K mg) : Er → Addr
  | .ix => Y.x_InvalidIndex
  | .bk => Y.x_InvalidBlock
  | .pw => Y.x_PowerCut
def Er.ps : Er → Nat
  | .ix => 0
  | .bk => 1
  | .pw => 2
def wAcc (e : Er) (i : Nat) : List V := if e.ps < i then [.str (S e.nm)] else []
theorem is_k {H : Hp} {Q : VK} {a D C : Addr} {b : Bool} (hx : H a = some (ExK (.ref D) a)) (c : ExcC K D) (e : PySem.W.kitOne K (.ref D) (.ref C) = some b) (q : Q (.bl b) H) : rIsK K [.ref a, .ref C] H Q := ⟨a, D, .ref C, .ref C, b, rfl, hx, c, .own C, e, q⟩
def sp_word (cs : Er → Addr) (K : PySem.W.Frag) : Sp := fun vs H Q _ => ∃ (a : Addr) (e : Er), vs = [.ref a] ∧ H a = some (ExK (.ref (cs e)) a) ∧ ∀ H', Same H H' → Q (.str (S e.nm)) H'
theorem ok_word (Y : Fx K mg) : FnOk P w K mg base CX0 1 Y.a__law_word Y.fd__law_word ["_law_caught"] (sp_word (erC Y) K) := by
  refine Y.F__law_word.ok sc__law_word (fun vs H Q E h => ?_) (fun cdv A outer s H vs Q E hr h => ?_)
  · obtain ⟨a, e, rfl, _⟩ := h
    rfl
  · obtain ⟨a, e, rfl, ha, q⟩ := h
    refine ⟨_, b__law_word Y hr, ?_⟩
    show t__law_word K Y _ [some (.ref a), none, none, none, none] H
    unfold t__law_word
    rw [show ("InvalidIndex" : Str) = S Er.ix.nm from rfl, show ("InvalidBlock" : Str) = S Er.bk.nm from rfl, show ("PowerCut" : Str) = S Er.pw.nm from rfl]
    walk_at "rd"
    refine is_k (b := decide (e.ps = 0)) ha (by cases e <;> first | exact Y.z_InvalidIndex | exact Y.z_InvalidBlock | exact Y.z_PowerCut) (by cases e <;> first | exact Y.i_InvalidIndex_InvalidIndex | exact Y.i_InvalidBlock_InvalidIndex | exact Y.i_PowerCut_InvalidIndex) ?_
    walk_at "rd"
    refine is_k (b := decide (e.ps = 1)) ha (by cases e <;> first | exact Y.z_InvalidIndex | exact Y.z_InvalidBlock | exact Y.z_PowerCut) (by cases e <;> first | exact Y.i_InvalidIndex_InvalidBlock | exact Y.i_InvalidBlock_InvalidBlock | exact Y.i_PowerCut_InvalidBlock) ?_
    walk_at "rd"
    refine is_k (b := decide (e.ps = 2)) ha (by cases e <;> first | exact Y.z_InvalidIndex | exact Y.z_InvalidBlock | exact Y.z_PowerCut) (by cases e <;> first | exact Y.i_InvalidIndex_PowerCut | exact Y.i_InvalidBlock_PowerCut | exact Y.i_PowerCut_PowerCut) ?_
    walk_at "rd"
    refine ⟨by show 3 ≤ sizeLine; decide, fun p hp => ?_⟩
    walk_at "rd"
    refine ⟨by show 3 ≤ sizeLine; decide, fun p2 hp2 => ?_⟩
    have h1 := same_upd hp2 (o := .lst [.str (S Er.ix.nm), .str (S Er.bk.nm), .str (S Er.pw.nm)]) p _ upd_same
    have h2 : (upd (upd H p (.lst [.bl (decide (e.ps = 0)), .bl (decide (e.ps = 1)), .bl (decide (e.ps = 2))])) p2 (.lst [.str (S Er.ix.nm), .str (S Er.bk.nm), .str (S Er.pw.nm)])) p2 = some (.lst [.str (S Er.ix.nm), .str (S Er.bk.nm), .str (S Er.pw.nm)]) := upd_same
    have hS := same_new (same_upd hp (o := .lst [.bl (decide (e.ps = 0)), .bl (decide (e.ps = 1)), .bl (decide (e.ps = 2))])) hp2 (o := .lst [.str (S Er.ix.nm), .str (S Er.bk.nm), .str (S Er.pw.nm)])
    generalize upd (upd H p (.lst [.bl (decide (e.ps = 0)), .bl (decide (e.ps = 1)), .bl (decide (e.ps = 2))])) p2 (.lst [.str (S Er.ix.nm), .str (S Er.bk.nm), .str (S Er.pw.nm)]) = H2 at h1 h2 hS
    walk_at "rd"
    refine lcR1_mk (by decide) (by decide) (fun D i H' => Same H2 H' ∧ H' D = some (.lst (wAcc e i))) (fun D hD => ⟨same_upd hD, upd_same⟩) (fun D i H' hD hi hP => ?_) (fun D H' hD hP => ?_)
    · obtain ⟨hs, hk⟩ := hP
      have hi3 : i < 3 := hi
      refine ⟨rfl, ?_⟩
      walk_at "rd"
      refine ix_L (lst_of (hs _ _ h1)) (at_nat (v := .bl (decide (e.ps = i))) (by omega) ?_) ?_
      · rw [Int.toNat_natCast]
        match i, hi3 with
        | 0, _ => rfl
        | 1, _ => rfl
        | 2, _ => rfl
      · walk_at "rd"
        refine ite2' (fun t => ?_) (fun t => ?_)
        · have t' : e.ps = i := of_decide_eq_true t
          walk_at "rd"
          refine ix_L (lst_of (hs _ _ h2)) (at_nat (v := .str (S e.nm)) (by omega) ?_) ?_
          · rw [Int.toNat_natCast, ← t']
            cases e <;> rfl
          · refine ⟨_, hk, ?_, same_mut hs hD, ?_⟩
            · unfold wAcc
              rw [if_neg (by omega)]
              show 0 < sizeLine
              decide
            · unfold wAcc
              rw [upd_same, if_neg (by omega), if_pos (by omega)]
              rfl
        · have t' : ¬ e.ps = i := of_decide_eq_false t
          refine ⟨hs, ?_⟩
          rw [hk]
          unfold wAcc
          by_cases z : e.ps < i
          · rw [if_pos z, if_pos (by omega)]
          · rw [if_neg z, if_neg (by omega)]
    · obtain ⟨hs, hk⟩ := hP
      have hk2 : H' D = some (.lst [.str (S e.nm)]) := by
        rw [hk]
        cases e <;> rfl
      walk_at "rd"
      refine ln_l (lst_of hk2) ?_
      walk_at "rd"
      refine iteTd rfl ?_
      walk_at "rd"
      refine ix_L (lst_of hk2) (by rfl) ?_
      exact q H' (hS.trans hs)
/-! deeds -/
inductive Wy where | rd | rdn | wr | wrn | fl
  deriving DecidableEq
def Wy.nm : Wy → List Nat
  | .rd => [114, 101, 97, 100]
  | .rdn => [114, 101, 97, 100, 32, 98, 121, 32, 110, 97, 109, 101]
  | .wr => [119, 114, 105, 116, 101]
  | .wrn => [119, 114, 105, 116, 101, 32, 98, 121, 32, 110, 97, 109, 101]
  | .fl => [102, 108, 117, 115, 104]
def Wy.isR : Wy → Bool
  | .rd => true
  | .rdn => true
  | _ => false
def Wy.isW : Wy → Bool
  | .wr => true
  | .wrn => true
  | _ => false
def iOf : PyData → Nat
  | .int z => z.toNat
  | _ => 0
def lOf : PyData → List Nat
  | .str z => z.cps.toList
  | _ => []
structure De where
  wy : Wy
  di : PyData
  db : PyData
def DeedAt (K : PySem.W.Frag) (H : Hp) (p : Addr) (de : De) (wr : Bool) : Prop := ∃ vi vb, SqT K H p [.str (S de.wy.nm), vi, vb, .bl wr] ∧ Dp K H vi de.di ∧ Dp K H vb de.db
structure Dok (c : Cf) (de : De) (wr : Bool) : Prop where
  wrong : wr = !isBkD c.sg de.db
  lim : ∀ l, de.db = .str (S l) → l.length ≤ 300000
  room : c.pe.length < 1000
def erD (e : Er) : PyData := .tuple [.str (S e.nm)]
def dueR (c : Cf) (de : De) : PyData × Cf :=
  if de.wy ≠ .fl ∧ isNumD 0 ((c.im.length : Int) - 1) de.di = false then (erD .ix, c)
  else if de.wy.isW = true ∧ isBkD c.sg de.db = false then (erD .bk, c)
  else if c.out = true then (erD .pw, c)
  else if de.wy.isR = true then (.list [.str (S (topL c.im c.pe (iOf de.di)))], c)
  else if (stepR c).1 = false then (erD .pw, (stepR c).2)
  else if de.wy.isW = true then (.list [.none], addC (stepR c).2 (iOf de.di) (lOf de.db))
  else (.list [.none], flC (stepR c).2)
end
end My

set_option Elab.async false
set_option linter.all false
set_option maxRecDepth 100000
set_option maxHeartbeats 1000000
namespace My
open PySem PySem.Spec PyProof.Rows L2
local macro_rules | `(tactic| walk_at "len") => `(tactic| first | assumption | omega | decide | (simp only [List.length_append, List.length_take, List.length_drop, List.length_cons, List.length_nil, List.length_replicate]; omega))
local macro_rules | `(tactic| walk_at "side") => `(tactic| first | assumption | exact Nat.zero_le _ | decide | omega)
local macro_rules | `(tactic| walk_at "rd1") => `(tactic| first
  | with_reducible refine s_seq ?_
  | with_reducible refine x_gsub ?_
  | with_reducible refine s_asg ?_
  | ((with_reducible refine s_gn ?_); dsimp only [List.set])
  | ((with_reducible refine x_var (v := ?rdv) ?rdhv ?_); (case rdhv => rfl))
  | with_reducible refine x_c ?_
  | with_reducible refine x_op ?_
  | with_reducible refine x_cons ?_
  | with_reducible refine x_nil ?_
  | with_reducible refine x_cb ?_
  | with_reducible refine x_call ?_
  | with_reducible refine x_callS ?_
  | with_reducible refine x_revT ?_
  | with_reducible refine x_dget ?_
  | with_reducible refine x_makeS ?_
  | with_reducible refine x_make ?_
  | with_reducible refine x_makeKS ?_
  | with_reducible refine x_methS ?_
  | with_reducible refine x_meth ?_
  | with_reducible refine x_methK ?_
  | with_reducible refine x_fld ?_
  | with_reducible refine s_fld ?_
  | with_reducible refine f_rt ?_
  | with_reducible refine f_zm ?_
  | with_reducible refine c_zm ?_
  | with_reducible refine x_din ?_
  | with_reducible refine x_dnotin ?_
  | with_reducible refine s_dput ?_
  | with_reducible refine x_dnew ?_
  | with_reducible refine s_try ?_
  | with_reducible refine s_raise ?_
  | with_reducible refine s_if ?_
  | with_reducible refine s_ret ?_
  | with_reducible refine s_retN ?_
  | with_reducible refine s_next ?_
  | with_reducible refine s_brk ?_
  | with_reducible refine s_cont ?_
  | with_reducible refine s_drop ?_
  | with_reducible refine s_par ?_
  | with_reducible refine s_par3 ?_
  | ((with_reducible refine s_p2 ?_); dsimp only [List.set])
  | ((with_reducible refine s_p3 ?_); dsimp only [List.set])
  | with_reducible refine f_r1 ?_
  | with_reducible refine f_r2 ?_
  | with_reducible refine f_l ?_
  | with_reducible refine f_t ?_
  | with_reducible refine f_s ?_
  | with_reducible refine c_r1 ?_
  | with_reducible refine c_r2 ?_
  | with_reducible refine c_l ?_
  | with_reducible refine c_t ?_
  | with_reducible refine c_s ?_
  | with_reducible refine x_tst ?_
  | with_reducible refine x_tru ?_
  | with_reducible refine x_truB ?_
  | with_reducible refine x_bl2 ?_
  | with_reducible refine x_int ?_
  | with_reducible refine x_str ?_
  | with_reducible refine x_not ?_
  | with_reducible refine x_and ?_
  | with_reducible refine x_or ?_
  | with_reducible refine x_andV ?_
  | with_reducible refine x_orV ?_
  | with_reducible refine x_notV ?_
  | with_reducible refine x_if ?_
  | with_reducible refine x_yes ?_
  | with_reducible refine x_un ?_
  | with_reducible refine x_tup ?_
  | with_reducible refine x_lst ?_
  | with_reducible refine x_callK ?_
  | with_reducible refine x_callK0 ?_
  | with_reducible refine x_bm ?_
  | with_reducible refine x_bm0 ?_
  | with_reducible refine x_tyS ?_
  | with_reducible refine x_sl ?_
  | with_reducible refine x_nopart ?_
  | with_reducible refine x_part ?_
  | with_reducible refine x_fmt0 ?_
  | with_reducible refine x_gc ?_
  | with_reducible refine x_gz ?_
  | with_reducible refine x_ckw ?_
  | with_reducible refine x_fmt ?_
  | with_reducible refine x_chain ?_
  | with_reducible refine a_ii ?_
  | ((with_reducible refine sl_to ?rda ?rdb ?_); (case rda => walk_at "len"); (case rdb => walk_at "len"))
  | ((with_reducible refine sl_from ?rda ?rdb ?_); (case rda => walk_at "len"); (case rdb => walk_at "len"))
  | ((with_reducible refine sl_mid ?rda ?rdb ?rdc ?_); (case rda => walk_at "len"); (case rdb => walk_at "len"); (case rdc => walk_at "len"))
  | ((with_reducible refine a_SS ?rda ?_); (case rda => walk_at "len"))
  | ((with_reducible refine ln_S ?rda ?_); (case rda => walk_at "len"))
  | with_reducible refine e_SS ?_
  | with_reducible refine ne_SS ?_
  | with_reducible refine s_ii ?_
  | ((with_reducible refine md_ii ?rdc ?_); (case rdc => first | decide | assumption | omega))
  | with_reducible refine n_i ?_
  | with_reducible refine e_ii ?_
  | with_reducible refine e_bb ?_
  | with_reducible refine ne_ii ?_
  | with_reducible refine ne_bb ?_
  | with_reducible refine lt_ii ?_
  | with_reducible refine lt_ss ?_
  | with_reducible refine le_ii ?_
  | with_reducible refine le_ss ?_
  | with_reducible refine gt_ii ?_
  | with_reducible refine gt_ss ?_
  | with_reducible refine ge_ii ?_
  | with_reducible refine e_ss ?_
  | with_reducible refine ne_ss ?_
  | with_reducible refine is_N ?_
  | with_reducible refine is_T ?_
  | with_reducible refine is_B ?_
  | with_reducible refine isn_N ?_
  | with_reducible refine isn_T ?_
  | with_reducible refine isn_B ?_
  | with_reducible refine in_s ?_
  | with_reducible refine nin_s ?_
  | with_reducible refine i_i ?_
  | with_reducible refine i_b ?_
  | with_reducible refine ab_i ?_
  | with_reducible refine mx_ii ?_
  | with_reducible refine mn_ii ?_
  | with_reducible refine ty_N ?_
  | with_reducible refine ty_B ?_
  | with_reducible refine ty_I ?_
  | with_reducible refine ty_S ?_
  | with_reducible refine ma_s ?_
  | with_reducible refine mp_s ?_
  | with_reducible refine mdg_s ?_
  | with_reducible refine mal_s ?_
  | with_reducible refine mlo_s ?_
  | with_reducible refine c_er ?_
  | with_reducible refine c_es ?_
  | with_reducible refine mf_s ?_
  | with_reducible refine iteT ?_
  | with_reducible refine iteF ?_
  | with_reducible refine iteNt ?_
  | with_reducible refine iteNf ?_
  | with_reducible refine iteTd (by decide) ?_
  | with_reducible refine iteFd (by decide) ?_
  | with_reducible refine iteNd (by decide) ?_
  | with_reducible refine iteNdF (by decide) ?_
  | ((with_reducible refine iteFd ?rdn ?_); (case rdn => (intro rdz; cases rdz; done)))
  | ((with_reducible refine iteNdF ?rdn ?_); (case rdn => (intro rdz; cases rdz; done))))
local macro_rules | `(tactic| walk_at "rd") => `(tactic| (repeat walk_at "rd1"))
section
variable {P : Program} {w : World} {K : PySem.W.Frag} {mg : Str → Option Value} {base : Heap}
/-! what a deed tells -/
theorem fr_sqt {L : List Addr} {H H' : Hp} (hF : Fr L H H') (hL : ∀ x ∈ L, ∀ o, H x = some o → NoT o) {a : Addr} {xs : List V} (h : SqT K H a xs) : SqT K H' a xs := same_sqt ms_le (same_sqt (ms_mono hF) (ms_sqt hL h))
theorem we_hit {cls c : Value} {i j : Nat} {Wout : WX} {D : Ends} {σ : L2.St} {H : Hp} (e : PySem.W.exmOne K cls c = some true) (h : ∀ a, H a = none → D.nx (((σ.set i (some (.ref a))).set j (some (.ref a))).set i none) (upd H a (ExK cls a))) : WE (wAsV K c i j Wout D) σ cls none H := ⟨true, e, fun _ => ⟨rfl, h⟩, fun z => nomatch z⟩
theorem s_tryV {c : Value} {i j : Nat} {Wout : WX} {tb : WX → TS} {D : Ends} {σ : L2.St} {H : Hp} (h : tb (wAsV K c i j Wout D) D σ H) : tTryV K c i j Wout tb D σ H := h
theorem st_out {c : Cf} (h : c.out = true) : stepR c = (false, c) := by
  unfold stepR
  rw [if_pos h]
theorem st_in {c : Cf} (h : (stepR c).1 = true) : c.out = false := by
  cases ho : c.out with
  | false => rfl
  | true => rw [st_out ho] at h; cases h
theorem rw_no {w : Wy} (h1 : w.isR = true) (h2 : w.isW = true) : False := by cases w <;> first | (cases h1; done) | (cases h2; done)
theorem due1 {c : Cf} {de : De} (h1 : de.wy ≠ .fl) (h2 : isNumD 0 ((c.im.length : Int) - 1) de.di = false) : dueR c de = (erD .ix, c) := by
  unfold dueR
  rw [if_pos ⟨h1, h2⟩]
theorem due2 {c : Cf} {de : De} (h1 : de.wy.isW = true) (h2 : isNumD 0 ((c.im.length : Int) - 1) de.di = true) (h3 : isBkD c.sg de.db = false) : dueR c de = (erD .bk, c) := by
  unfold dueR
  rw [if_neg (fun z => by rw [h2] at z; cases z.2), if_pos ⟨h1, h3⟩]
theorem due3 {c : Cf} {de : De} (h1 : de.wy.isR = true) (h2 : isNumD 0 ((c.im.length : Int) - 1) de.di = true) (h3 : c.out = true) : dueR c de = (erD .pw, c) := by
  unfold dueR
  rw [if_neg (fun z => by rw [h2] at z; cases z.2), if_neg (fun z => rw_no h1 z.1), if_pos h3]
theorem due4 {c : Cf} {de : De} {i : Nat} (h1 : de.wy.isR = true) (h2 : de.di = .int i) (hi : i < c.im.length) (h3 : c.out = false) : dueR c de = (.list [.str (S (topL c.im c.pe i))], c) := by
  have hn : isNumD 0 ((c.im.length : Int) - 1) de.di = true := by
    rw [h2]
    show (decide ((0 : Int) ≤ (i : Int)) && decide ((i : Int) ≤ (c.im.length : Int) - 1)) = true
    rw [decide_eq_true (by omega), decide_eq_true (by omega)]
    rfl
  unfold dueR
  rw [if_neg (fun z => by rw [hn] at z; cases z.2), if_neg (fun z => rw_no h1 z.1), if_neg (by rw [h3]; exact fun z => nomatch z), if_pos h1, h2]
  rfl
theorem due5 {c : Cf} {de : De} (h1 : de.wy.isW = true) (h2 : isNumD 0 ((c.im.length : Int) - 1) de.di = true) (h3 : isBkD c.sg de.db = true) (h4 : (stepR c).1 = false) : dueR c de = (erD .pw, (stepR c).2) := by
  unfold dueR
  rw [if_neg (fun z => by rw [h2] at z; cases z.2), if_neg (fun z => by rw [h3] at z; cases z.2)]
  by_cases ho : c.out = true
  · rw [if_pos ho, st_out ho]
  · rw [if_neg ho, if_neg (fun z => rw_no z h1), if_pos h4]
theorem due6 {c : Cf} {de : De} {i : Nat} {l : List Nat} (h1 : de.wy.isW = true) (h2 : de.di = .int i) (hi : i < c.im.length) (h3 : de.db = .str (S l)) (hT : isT l = true) (hl : l.length ≤ c.sg) (h4 : (stepR c).1 = true) : dueR c de = (.list [.none], addC (stepR c).2 i l) := by
  have hn : isNumD 0 ((c.im.length : Int) - 1) de.di = true := by
    rw [h2]
    show (decide ((0 : Int) ≤ (i : Int)) && decide ((i : Int) ≤ (c.im.length : Int) - 1)) = true
    rw [decide_eq_true (by omega), decide_eq_true (by omega)]
    rfl
  have hb : isBkD c.sg de.db = true := by
    rw [h3]
    show (isT l && decide (l.length ≤ c.sg)) = true
    rw [hT, decide_eq_true hl]
    rfl
  unfold dueR
  rw [if_neg (fun z => by rw [hn] at z; cases z.2), if_neg (fun z => by rw [hb] at z; cases z.2), if_neg (by rw [st_in h4]; exact fun z => nomatch z), if_neg (fun z => rw_no z h1), if_neg (by rw [h4]; exact fun z => nomatch z), if_pos h1, h2, h3]
  rfl
theorem due7 {c : Cf} {de : De} (h1 : de.wy = .fl) (h4 : (stepR c).1 = false) : dueR c de = (erD .pw, (stepR c).2) := by
  unfold dueR
  rw [if_neg (fun z => z.1 h1), if_neg (fun z => by rw [h1] at z; cases z.1)]
  by_cases ho : c.out = true
  · rw [if_pos ho, st_out ho]
  · rw [if_neg ho, if_neg (by rw [h1]; exact fun z => nomatch z), if_pos h4]
theorem due8 {c : Cf} {de : De} (h1 : de.wy = .fl) (h4 : (stepR c).1 = true) : dueR c de = (.list [.none], flC (stepR c).2) := by
  unfold dueR
  rw [if_neg (fun z => z.1 h1), if_neg (fun z => by rw [h1] at z; cases z.1), if_neg (by rw [st_in h4]; exact fun z => nomatch z), if_neg (by rw [h1]; exact fun z => nomatch z), if_neg (by rw [h4]; exact fun z => nomatch z), if_neg (by rw [h1]; exact fun z => nomatch z)]
def sp_told (C : Addr) (K : PySem.W.Frag) : Sp := fun vs H Q _ => ∃ (d : Addr) (c : Cf) (p : Addr) (de : De) (wr : Bool), vs = [.ref d, .ref p] ∧ DiskAt K C H d c ∧ DeedAt K H p de wr ∧ Dok c de wr ∧ ∀ r H', DiskAt K C H' d (dueR c de).2 → Fr [d] H H' → Dp K H' r (dueR c de).1 → Q r H'
theorem ok_told (Y : Fx K mg) : FnOk P w K mg base CX0 5 Y.a__law_told Y.fd__law_told ["_law_disk", "_law_deed_here"] (sp_told Y.C_Disk K) := by
  refine Y.F__law_told.ok sc__law_told (fun vs H Q E h => ?_) (fun cdv A outer s H vs Q E hr h => ?_)
  · obtain ⟨d, c, p, de, wr, rfl, _⟩ := h
    rfl
  · obtain ⟨d, c, p, de, wr, rfl, hD, hde, hok, q⟩ := h
    refine ⟨_, b__law_told Y (ok_flush Y) (ok_read Y) (ok_write Y) (ok_word Y) hr, ?_⟩
    show t__law_told K Y _ _ _ _ _ [some (.ref d), some (.ref p), none, none, none] H
    have hD0 := hD
    obtain ⟨h0, dx, ia, pa, hd, hi, hp⟩ := hD
    obtain ⟨vi, vb, hT, hvi, hvb⟩ := hde
    have hL : ∀ x ∈ [d], ∀ o, H x = some o → NoT o := fun x hx o e => by
      rw [List.mem_singleton.mp hx, hd] at e
      cases e
      exact True.intro
    have err : ∀ (e : Er) (c' : Cf) (a : Addr) (H1 : Hp) (n : L2.St → Hp → Prop) (b k : L2.St → Hp → Prop), H1 a = none → DiskAt K Y.C_Disk H1 d c' → Fr [d] H H1 → dueR c de = (erD e, c') →
        (tRet (tIf (tTest (tOp (rIS K) (tVar 2) (tC .non))) (tVar 3) (tTup (tCons (tCall (sp_word (erC Y) K) [] E0 (tCons (tVar 2) tNil)) tNil)))) ⟨n, Q, b, k⟩ [some (.ref d), some (.ref p), some (.ref a), some .non, none] (upd H1 a (ExK (.ref (erC Y e)) a)) := by
      intro e c' a H1 n b k ha hD1 hF hdu
      walk_at "rd"
      refine ⟨a, e, rfl, upd_same, fun H2 hS2 => ?_⟩
      walk_at "rd"
      refine ⟨by show 1 ≤ sizeLine; decide, fun r hr => ?_⟩
      have hS3 := (same_upd ha (o := ExK (.ref (erC Y e)) a)).trans (same_new hS2 hr (o := .tup [.str (S e.nm)]))
      refine q _ _ (by rw [hdu]; exact hD1.same hS3) (hF.trans (Fr.of hS3)) ?_
      rw [hdu]
      exact .tup (tup_of upd_same) (.cons (.str _) .nil)
    have okk : ∀ (x : V) (dd : PyData) (c' : Cf) (r : Addr) (H1 : Hp), H1 r = none → DiskAt K Y.C_Disk H1 d c' → Fr [d] H H1 → Dp K (upd H1 r (.lst [x])) x dd → dueR c de = (.list [dd], c') → Q (.ref r) (upd H1 r (.lst [x])) := by
      intro x dd c' r H1 hr hD1 hF hx hdu
      have hS3 := same_upd hr (o := .lst [x])
      refine q _ _ (by rw [hdu]; exact hD1.same hS3) (hF.trans (Fr.of hS3)) ?_
      rw [hdu]
      exact .lst (lst_of upd_same) (.cons hx .nil)
    unfold t__law_told
    rw [show ("read" : Str) = S Wy.rd.nm from rfl, show ("read by name" : Str) = S Wy.rdn.nm from rfl, show ("write" : Str) = S Wy.wr.nm from rfl, show ("write by name" : Str) = S Wy.wrn.nm from rfl, show ("flush" : Str) = S Wy.fl.nm from rfl]
    walk_at "rd"
    refine ⟨by show 2 ≤ sizeLine; decide, fun t ht => ?_⟩
    refine gt_T (tup_of upd_same) rfl ?_
    refine x_gc (s_gn (x_gc (s_gn (x_gz ?_))))
    dsimp only [List.set]
    have hSt : Same H (upd H t (.tup [.non, .non])) := same_upd ht
    have hD1 := hD0.same hSt
    have hd1 := hSt _ _ hd
    have hT1 := same_sqt hSt hT
    have hvi1 := dp_mono hSt _ _ hvi
    have hvb1 := dp_mono hSt _ _ hvb
    have hF1 : Fr [d] H (upd H t (.tup [.non, .non])) := Fr.of hSt
    have hL1 : ∀ x ∈ [d], ∀ o, (upd H t (.tup [.non, .non])) x = some o → NoT o := fun x hx o e => by
      rw [List.mem_singleton.mp hx, hd1] at e
      cases e
      exact True.intro
    generalize upd H t (.tup [.non, .non]) = H1 at hSt hD1 hd1 hT1 hvi1 hvb1 hF1 hL1
    refine s_tryV ?_
    obtain ⟨wy, di, db⟩ := de
    obtain ⟨hwr, hlim, hroom⟩ := hok
    cases wy with
    | rd =>
      have hT1 : SqT K H1 p [.str (S Wy.rd.nm), vi, vb, .bl wr] := hT1
      walk_at "rd"
      refine ix_T hT1 (by rfl) ?_
      walk_at "rd"
      refine ⟨d, dx, _, rfl, hd1, no_read, ?_⟩
      walk_at "rd"
      refine ix_T hT1 (by rfl) ?_
      walk_at "rd"
      refine ⟨d, c, vi, di, rfl, hD1, hvi1, fun h => ?_, fun h1 h2 => ?_, fun i h1 h2 h3 => ?_⟩
      · exact we_hit Y.m_InvalidIndex_StoreError fun a ha => err .ix c a H1 _ _ _ ha hD1 hF1 (due1 (fun z => nomatch z) h)
      · exact we_hit Y.m_PowerCut_StoreError fun a ha => err .pw c a H1 _ _ _ ha hD1 hF1 (due3 rfl h1 h2)
      · walk_at "rd"
        refine ⟨by show 1 ≤ sizeLine; decide, fun r hr => ?_⟩
        have hS2 := same_upd hr (o := .lst [.str (S (topL c.im c.pe i))])
        have hT2 := same_sqt hS2 hT1
        walk_at "rd"
        refine ix_T hT2 (by rfl) ?_
        walk_at "rd"
        walk_at "rd"
        refine ix_T hT2 (by rfl) ?_
        walk_at "rd"
        walk_at "rd"
        refine ix_T hT2 (by rfl) ?_
        walk_at "rd"
        walk_at "rd"
        refine ix_T hT2 (by rfl) ?_
        walk_at "rd"
        exact okk _ _ c r H1 hr hD1 hF1 (.str _) (due4 rfl h1 h2 h3)
    | rdn =>
      have hT1 : SqT K H1 p [.str (S Wy.rdn.nm), vi, vb, .bl wr] := hT1
      walk_at "rd"
      refine ix_T hT1 (by rfl) ?_
      walk_at "rd"
      walk_at "rd"
      refine ix_T hT1 (by rfl) ?_
      walk_at "rd"
      refine ⟨d, dx, _, rfl, hd1, no_read, ?_⟩
      walk_at "rd"
      refine ix_T hT1 (by rfl) ?_
      walk_at "rd"
      refine ⟨d, c, vi, di, rfl, hD1, hvi1, fun h => ?_, fun h1 h2 => ?_, fun i h1 h2 h3 => ?_⟩
      · exact we_hit Y.m_InvalidIndex_StoreError fun a ha => err .ix c a H1 _ _ _ ha hD1 hF1 (due1 (fun z => nomatch z) h)
      · exact we_hit Y.m_PowerCut_StoreError fun a ha => err .pw c a H1 _ _ _ ha hD1 hF1 (due3 rfl h1 h2)
      · walk_at "rd"
        refine ⟨by show 1 ≤ sizeLine; decide, fun r hr => ?_⟩
        have hS2 := same_upd hr (o := .lst [.str (S (topL c.im c.pe i))])
        have hT2 := same_sqt hS2 hT1
        walk_at "rd"
        refine ix_T hT2 (by rfl) ?_
        walk_at "rd"
        walk_at "rd"
        refine ix_T hT2 (by rfl) ?_
        walk_at "rd"
        walk_at "rd"
        refine ix_T hT2 (by rfl) ?_
        walk_at "rd"
        exact okk _ _ c r H1 hr hD1 hF1 (.str _) (due4 rfl h1 h2 h3)
    | wr =>
      have hT1 : SqT K H1 p [.str (S Wy.wr.nm), vi, vb, .bl wr] := hT1
      walk_at "rd"
      refine ix_T hT1 (by rfl) ?_
      walk_at "rd"
      walk_at "rd"
      refine ix_T hT1 (by rfl) ?_
      walk_at "rd"
      walk_at "rd"
      refine ix_T hT1 (by rfl) ?_
      walk_at "rd"
      refine ⟨d, dx, _, rfl, hd1, no_write, ?_⟩
      walk_at "rd"
      refine ix_T hT1 (by rfl) ?_
      walk_at "rd"
      walk_at "rd"
      refine ix_T hT1 (by rfl) ?_
      walk_at "rd"
      refine ⟨d, c, vi, vb, di, db, rfl, hD1, hvi1, hvb1, hlim, hroom, fun h => ?_, fun h1 h2 => ?_, fun h1 h2 h3 H2 hD2 hF2 => ?_, fun i l h1 h2 h3 h4 h5 h6 H2 hD2 hF2 => ?_⟩
      · exact we_hit Y.m_InvalidIndex_StoreError fun a ha => err .ix c a H1 _ _ _ ha hD1 hF1 (due1 (fun z => nomatch z) h)
      · exact we_hit Y.m_InvalidBlock_StoreError fun a ha => err .bk c a H1 _ _ _ ha hD1 hF1 (due2 rfl h1 h2)
      · exact we_hit Y.m_PowerCut_StoreError fun a ha => err .pw _ a H2 _ _ _ ha hD2 (hF1.trans hF2) (due5 rfl h1 h2 h3)
      · walk_at "rd"
        refine ⟨by show 1 ≤ sizeLine; decide, fun r hr => ?_⟩
        have hT2 := same_sqt (same_upd hr (o := .lst [.non])) (fr_sqt hF2 hL1 hT1)
        walk_at "rd"
        refine ix_T hT2 (by rfl) ?_
        walk_at "rd"
        walk_at "rd"
        refine ix_T hT2 (by rfl) ?_
        walk_at "rd"
        exact okk _ _ _ r H2 hr hD2 (hF1.trans hF2) .non (due6 rfl h1 h2 h3 h4 h5 h6)
    | wrn =>
      have hT1 : SqT K H1 p [.str (S Wy.wrn.nm), vi, vb, .bl wr] := hT1
      walk_at "rd"
      refine ix_T hT1 (by rfl) ?_
      walk_at "rd"
      walk_at "rd"
      refine ix_T hT1 (by rfl) ?_
      walk_at "rd"
      walk_at "rd"
      refine ix_T hT1 (by rfl) ?_
      walk_at "rd"
      walk_at "rd"
      refine ix_T hT1 (by rfl) ?_
      walk_at "rd"
      refine ⟨d, dx, _, rfl, hd1, no_write, ?_⟩
      walk_at "rd"
      refine ix_T hT1 (by rfl) ?_
      walk_at "rd"
      walk_at "rd"
      refine ix_T hT1 (by rfl) ?_
      walk_at "rd"
      refine ⟨d, c, vi, vb, di, db, rfl, hD1, hvi1, hvb1, hlim, hroom, fun h => ?_, fun h1 h2 => ?_, fun h1 h2 h3 H2 hD2 hF2 => ?_, fun i l h1 h2 h3 h4 h5 h6 H2 hD2 hF2 => ?_⟩
      · exact we_hit Y.m_InvalidIndex_StoreError fun a ha => err .ix c a H1 _ _ _ ha hD1 hF1 (due1 (fun z => nomatch z) h)
      · exact we_hit Y.m_InvalidBlock_StoreError fun a ha => err .bk c a H1 _ _ _ ha hD1 hF1 (due2 rfl h1 h2)
      · exact we_hit Y.m_PowerCut_StoreError fun a ha => err .pw _ a H2 _ _ _ ha hD2 (hF1.trans hF2) (due5 rfl h1 h2 h3)
      · walk_at "rd"
        refine ⟨by show 1 ≤ sizeLine; decide, fun r hr => ?_⟩
        have hT2 := same_sqt (same_upd hr (o := .lst [.non])) (fr_sqt hF2 hL1 hT1)
        walk_at "rd"
        refine ix_T hT2 (by rfl) ?_
        walk_at "rd"
        exact okk _ _ _ r H2 hr hD2 (hF1.trans hF2) .non (due6 rfl h1 h2 h3 h4 h5 h6)
    | fl =>
      have hT1 : SqT K H1 p [.str (S Wy.fl.nm), vi, vb, .bl wr] := hT1
      walk_at "rd"
      refine ix_T hT1 (by rfl) ?_
      walk_at "rd"
      walk_at "rd"
      refine ix_T hT1 (by rfl) ?_
      walk_at "rd"
      walk_at "rd"
      refine ix_T hT1 (by rfl) ?_
      walk_at "rd"
      walk_at "rd"
      refine ix_T hT1 (by rfl) ?_
      walk_at "rd"
      walk_at "rd"
      refine ix_T hT1 (by rfl) ?_
      walk_at "rd"
      refine ⟨d, dx, _, rfl, hd1, no_flush, ?_⟩
      walk_at "rd"
      refine ⟨d, c, rfl, hD1, fun h3 H2 hD2 hF2 => ?_, fun h3 H2 hD2 hF2 => ?_⟩
      · exact we_hit Y.m_PowerCut_StoreError fun a ha => err .pw _ a H2 _ _ _ ha hD2 (hF1.trans hF2) (due7 rfl h3)
      · walk_at "rd"
        refine ⟨by show 1 ≤ sizeLine; decide, fun r hr => ?_⟩
        walk_at "rd"
        exact okk _ _ _ r H2 hr hD2 (hF1.trans hF2) .non (due8 rfl h3)
end
end My

set_option Elab.async false
set_option linter.all false
set_option maxRecDepth 100000
set_option maxHeartbeats 1000000
namespace My
open PySem PySem.Spec PyProof.Rows L2
local macro_rules | `(tactic| walk_at "len") => `(tactic| first | assumption | omega | decide | (simp only [List.length_append, List.length_take, List.length_drop, List.length_cons, List.length_nil, List.length_replicate]; omega))
local macro_rules | `(tactic| walk_at "side") => `(tactic| first | assumption | exact Nat.zero_le _ | decide | omega)
local macro_rules | `(tactic| walk_at "rd1") => `(tactic| first
  | with_reducible refine s_seq ?_
  | with_reducible refine x_gsub ?_
  | with_reducible refine s_asg ?_
  | ((with_reducible refine s_gn ?_); dsimp only [List.set])
  | ((with_reducible refine x_var (v := ?rdv) ?rdhv ?_); (case rdhv => rfl))
  | with_reducible refine x_c ?_
  | with_reducible refine x_op ?_
  | with_reducible refine x_cons ?_
  | with_reducible refine x_nil ?_
  | with_reducible refine x_cb ?_
  | with_reducible refine x_call ?_
  | with_reducible refine x_callS ?_
  | with_reducible refine x_revT ?_
  | with_reducible refine x_dget ?_
  | with_reducible refine x_makeS ?_
  | with_reducible refine x_make ?_
  | with_reducible refine x_makeKS ?_
  | with_reducible refine x_methS ?_
  | with_reducible refine x_meth ?_
  | with_reducible refine x_methK ?_
  | with_reducible refine x_fld ?_
  | with_reducible refine s_fld ?_
  | with_reducible refine f_rt ?_
  | with_reducible refine f_zm ?_
  | with_reducible refine c_zm ?_
  | with_reducible refine x_din ?_
  | with_reducible refine x_dnotin ?_
  | with_reducible refine s_dput ?_
  | with_reducible refine x_dnew ?_
  | with_reducible refine s_try ?_
  | with_reducible refine s_raise ?_
  | with_reducible refine s_if ?_
  | with_reducible refine s_ret ?_
  | with_reducible refine s_retN ?_
  | with_reducible refine s_next ?_
  | with_reducible refine s_brk ?_
  | with_reducible refine s_cont ?_
  | with_reducible refine s_drop ?_
  | with_reducible refine s_par ?_
  | with_reducible refine s_par3 ?_
  | ((with_reducible refine s_p2 ?_); dsimp only [List.set])
  | ((with_reducible refine s_p3 ?_); dsimp only [List.set])
  | with_reducible refine f_r1 ?_
  | with_reducible refine f_r2 ?_
  | with_reducible refine f_l ?_
  | with_reducible refine f_t ?_
  | with_reducible refine f_s ?_
  | with_reducible refine c_r1 ?_
  | with_reducible refine c_r2 ?_
  | with_reducible refine c_l ?_
  | with_reducible refine c_t ?_
  | with_reducible refine c_s ?_
  | with_reducible refine x_tst ?_
  | with_reducible refine x_tru ?_
  | with_reducible refine x_truB ?_
  | with_reducible refine x_bl2 ?_
  | with_reducible refine x_int ?_
  | with_reducible refine x_str ?_
  | with_reducible refine x_not ?_
  | with_reducible refine x_and ?_
  | with_reducible refine x_or ?_
  | with_reducible refine x_andV ?_
  | with_reducible refine x_orV ?_
  | with_reducible refine x_notV ?_
  | with_reducible refine x_if ?_
  | with_reducible refine x_yes ?_
  | with_reducible refine x_un ?_
  | with_reducible refine x_tup ?_
  | with_reducible refine x_lst ?_
  | with_reducible refine x_callK ?_
  | with_reducible refine x_callK0 ?_
  | with_reducible refine x_bm ?_
  | with_reducible refine x_bm0 ?_
  | with_reducible refine x_tyS ?_
  | with_reducible refine x_sl ?_
  | with_reducible refine x_nopart ?_
  | with_reducible refine x_part ?_
  | with_reducible refine x_fmt0 ?_
  | with_reducible refine x_gc ?_
  | with_reducible refine x_gz ?_
  | with_reducible refine x_ckw ?_
  | with_reducible refine x_fmt ?_
  | with_reducible refine x_chain ?_
  | with_reducible refine a_ii ?_
  | ((with_reducible refine sl_to ?rda ?rdb ?_); (case rda => walk_at "len"); (case rdb => walk_at "len"))
  | ((with_reducible refine sl_from ?rda ?rdb ?_); (case rda => walk_at "len"); (case rdb => walk_at "len"))
  | ((with_reducible refine sl_mid ?rda ?rdb ?rdc ?_); (case rda => walk_at "len"); (case rdb => walk_at "len"); (case rdc => walk_at "len"))
  | ((with_reducible refine a_SS ?rda ?_); (case rda => walk_at "len"))
  | ((with_reducible refine ln_S ?rda ?_); (case rda => walk_at "len"))
  | with_reducible refine e_SS ?_
  | with_reducible refine ne_SS ?_
  | with_reducible refine s_ii ?_
  | ((with_reducible refine md_ii ?rdc ?_); (case rdc => first | decide | assumption | omega))
  | with_reducible refine n_i ?_
  | with_reducible refine e_ii ?_
  | with_reducible refine e_bb ?_
  | with_reducible refine ne_ii ?_
  | with_reducible refine ne_bb ?_
  | with_reducible refine lt_ii ?_
  | with_reducible refine lt_ss ?_
  | with_reducible refine le_ii ?_
  | with_reducible refine le_ss ?_
  | with_reducible refine gt_ii ?_
  | with_reducible refine gt_ss ?_
  | with_reducible refine ge_ii ?_
  | with_reducible refine e_ss ?_
  | with_reducible refine ne_ss ?_
  | with_reducible refine is_N ?_
  | with_reducible refine is_T ?_
  | with_reducible refine is_B ?_
  | with_reducible refine isn_N ?_
  | with_reducible refine isn_T ?_
  | with_reducible refine isn_B ?_
  | with_reducible refine in_s ?_
  | with_reducible refine nin_s ?_
  | with_reducible refine i_i ?_
  | with_reducible refine i_b ?_
  | with_reducible refine ab_i ?_
  | with_reducible refine mx_ii ?_
  | with_reducible refine mn_ii ?_
  | with_reducible refine ty_N ?_
  | with_reducible refine ty_B ?_
  | with_reducible refine ty_I ?_
  | with_reducible refine ty_S ?_
  | with_reducible refine ma_s ?_
  | with_reducible refine mp_s ?_
  | with_reducible refine mdg_s ?_
  | with_reducible refine mal_s ?_
  | with_reducible refine mlo_s ?_
  | with_reducible refine c_er ?_
  | with_reducible refine c_es ?_
  | with_reducible refine mf_s ?_
  | with_reducible refine iteT ?_
  | with_reducible refine iteF ?_
  | with_reducible refine iteNt ?_
  | with_reducible refine iteNf ?_
  | with_reducible refine iteTd (by decide) ?_
  | with_reducible refine iteFd (by decide) ?_
  | with_reducible refine iteNd (by decide) ?_
  | with_reducible refine iteNdF (by decide) ?_
  | ((with_reducible refine iteFd ?rdn ?_); (case rdn => (intro rdz; cases rdz; done)))
  | ((with_reducible refine iteNdF ?rdn ?_); (case rdn => (intro rdz; cases rdz; done))))
local macro_rules | `(tactic| walk_at "rd") => `(tactic| (repeat walk_at "rd1"))
section
variable {P : Program} {w : World} {K : PySem.W.Frag} {mg : Str → Option Value} {base : Heap}
/-! the law's own model of a disk -/
theorem at_last {α : Type} {xs : List α} {n : Nat} {v : α} (hl : xs.length = n + 1) (h : xs[n]? = some v) : atI xs (-1) = some v := by
  unfold atI ixN
  rw [hl, if_neg (by decide), if_pos (by omega)]
  show xs[((-1 : Int) + ((n + 1 : Nat) : Int)).toNat]? = some v
  rw [show ((-1 : Int) + ((n + 1 : Nat) : Int)).toNat = n by omega]
  exact h
def mdD (ia pl : V) (sg : Nat) (st : Option Nat) (out : Bool) : List (Key × V) := [(.inr "image", ia), (.inr "pending", pl), (.inr "signs", .int sg), (.inr "steps", stV st), (.inr "out", .bl out)]
def ModAt (K : PySem.W.Frag) (N : List Addr) (H : Hp) (m : Addr) (c : Cf) : Prop := Cok c ∧ ∃ (ia pl : Addr) (us : List V), H m = some (.dK (mdD (.ref ia) (.ref pl) c.sg c.st c.out)) ∧ Dp K H (.ref ia) (imD c.im) ∧ H pl = some (.lst us) ∧ DpAll K H us (c.pe.map peE) ∧ pl ∉ N
theorem tup_pes (pe : List (Nat × List Nat)) : tupDs (pe.map peE) = true := tupDs_of fun d hd => by
  obtain ⟨l, _, rfl⟩ := List.mem_map.mp hd
  rfl
theorem fr_dps {L : List Addr} {H H' : Hp} (hF : Fr L H H') (hL : ∀ x ∈ L, ∀ o, H x = some o → NoT o) {ds : List PyData} {vs : List V} (ht : tupDs ds = true) (h : DpAll K H vs ds) : DpAll K H' vs ds := dpAll_mono ms_le _ _ (dpAll_mono (ms_mono hF) _ _ (ms_dps hL ds vs ht h))
theorem ModAt.keep {N L : List Addr} {H H' : Hp} {m : Addr} {c : Cf} (h : ModAt K N H m c) (hF : Fr L H H') (hL : ∀ x ∈ L, ∀ o, H x = some o → NoT o) (hN : ∀ x ∈ L, x ∈ N ∨ ∀ o, H x = some o → NoL o) (hm : m ∉ L) : ModAt K N H' m c := by
  obtain ⟨h0, ia, pl, us, h1, h2, h3, h4, h5⟩ := h
  exact ⟨h0, ia, pl, us, hF _ _ hm h1, fr_dp hF hL (tup_im _) h2, hF _ _ (fun z => (hN _ z).elim h5 fun q => q _ h3) h3, fr_dps hF hL (tup_pes _) h4, h5⟩
theorem ModAt.same {N : List Addr} {H H' : Hp} {m : Addr} {c : Cf} (h : ModAt K N H m c) (hS : Same H H') : ModAt K N H' m c := by
  obtain ⟨h0, ia, pl, us, h1, h2, h3, h4, h5⟩ := h
  exact ⟨h0, ia, pl, us, hS _ _ h1, dp_mono hS _ _ h2, hS _ _ h3, dpAll_mono hS _ _ h4, h5⟩
theorem ModAt.put {N : List Addr} {H : Hp} {m : Addr} {c' : Cf} {ia pl : Addr} {us : List V} {kvs : List (Key × V)} (h0 : Cok c') (hm : H m = some (.dK kvs)) (hi : Dp K H (.ref ia) (imD c'.im)) (hp : H pl = some (.lst us)) (hpd : DpAll K H us (c'.pe.map peE)) (hN : pl ∉ N) :
    ModAt K N (upd H m (.dK (mdD (.ref ia) (.ref pl) c'.sg c'.st c'.out))) m c' := by
  have hF : Fr [m] H (upd H m (.dK (mdD (.ref ia) (.ref pl) c'.sg c'.st c'.out))) := (Fr.refl H).upd (List.mem_singleton_self m)
  have hL : ∀ x ∈ [m], ∀ o, H x = some o → NoT o := fun x hx o e => by
    rw [List.mem_singleton.mp hx, hm] at e
    cases e
    exact True.intro
  exact ⟨h0, ia, pl, us, upd_same, fr_dp hF hL (tup_im _) hi, hF _ _ (fun z => by rw [List.mem_singleton.mp z, hm] at hp; cases hp) hp, fr_dps hF hL (tup_pes _) hpd, hN⟩
theorem dg {H : Hp} {m : Addr} {ia pl v : V} {sg : Nat} {st : Option Nat} {out : Bool} {k : Str} (h : H m = some (.dK (mdD ia pl sg st out))) (e : valV (mdD ia pl sg st out) (Sum.inr k : Key) = some v) : DGet H m (.str k) (some v) := .inl ⟨_, .inr k, .inl h, rfl, e.symm⟩
theorem dpu {H : Hp} {m : Addr} {ia pl v : V} {sg : Nat} {st : Option Nat} {out : Bool} {k : Str} (h : H m = some (.dK (mdD ia pl sg st out))) : DPut H m (.str k) v (upd H m (.dK (putK (mdD ia pl sg st out) (Sum.inr k : Key) v))) := .inl ⟨_, .inr k, h, rfl, by show 5 < sizeLine; decide, rfl⟩
def sp_newest (K : PySem.W.Frag) : Sp := fun vs H Q _ => ∃ (N : List Addr) (m : Addr) (c : Cf) (i : Nat), vs = [.ref m, .int i] ∧ ModAt K N H m c ∧ i < c.im.length ∧ ∀ p H', Same H H' → H' p = some (.lst (tv (newL c.im c.pe i))) → Q (.ref p) H'
theorem ok_newest (Y : Fx K mg) : FnOk P w K mg base CX0 1 Y.a__law_newest Y.fd__law_newest ["_law_model", "_law_index"] (sp_newest K) := by
  refine Y.F__law_newest.ok sc__law_newest (fun vs H Q E h => ?_) (fun cdv A outer s H vs Q E hr h => ?_)
  · obtain ⟨N, m, c, i, rfl, _⟩ := h
    rfl
  · obtain ⟨N, m, c, i, rfl, hM, hil, q⟩ := h
    obtain ⟨h0, ia, pl, us, h1, h2, h3, h4, h5⟩ := hM
    have h2S := im_sq h2
    refine ⟨_, b__law_newest Y hr, ?_⟩
    show t__law_newest K _ [some (.ref m), some (.int i), none, none] H
    unfold t__law_newest
    walk_at "rd"
    refine ⟨m, .ref ia, rfl, dg h1 rfl, ?_⟩
    walk_at "rd"
    refine ix_T h2S (at_nat (v := .str (S (c.im.getD i []))) (by omega) ?_) ?_
    · unfold tv
      rw [List.getElem?_map, Int.toNat_natCast, List.getElem?_eq_getElem hil, List.getD_eq_getElem?_getD, List.getElem?_eq_getElem hil]
      rfl
    walk_at "rd"
    refine ⟨by show 1 ≤ sizeLine; decide, fun p hp => ?_⟩
    have hS1 := same_upd hp (o := .lst [.str (S (c.im.getD i []))])
    have hp1 : (upd H p (.lst [.str (S (c.im.getD i []))])) p = some (.lst [.str (S (c.im.getD i []))]) := upd_same
    generalize upd H p (.lst [.str (S (c.im.getD i []))]) = H1 at hS1 hp1
    walk_at "rd"
    refine ⟨m, .ref pl, rfl, dg (hS1 _ _ h1) rfl, ?_⟩
    have h3' := hS1 _ _ h3
    have h4' := dpAll_mono hS1 _ _ h4
    have hul : us.length = c.pe.length := by rw [dpAll_len h4, List.length_map]
    have hpl := h0.pl
    refine lcL_mk (lst_of h3') (fun D k H' => Same H1 H' ∧ H' D = some (.lst (tv (((c.pe.take k).filter fun e => e.1 == i).map (·.2))))) (fun D hD => ⟨same_upd hD, upd_same⟩) (fun D k H' hD _ hP => lst_of (hP.1 _ _ h3')) (fun D k x H' hD hx hP => ?_) (fun D H' hD hP => ?_)
    · obtain ⟨hs, hk⟩ := hP
      obtain ⟨en, p2, he, rfl, hs2⟩ := pe_item h4' hx
      have hkl : (((c.pe.take k).filter fun e => e.1 == i).map (·.2)).length ≤ 1000 := by
        rw [List.length_map]
        have := List.length_filter_le (fun e : Nat × List Nat => e.1 == i) (c.pe.take k)
        rw [List.length_take] at this
        omega
      refine gt_T (same_sqt hs hs2) rfl ?_
      refine x_gc (s_gn (x_gc (s_gn (x_gz ?_))))
      refine ⟨rfl, ?_⟩
      show tTest _ [some (.ref m), some (.int i), some (.int en.1), some (.str (S en.2))] H' _
      walk_at "rd"
      refine ite2' (fun e => ?_) (fun e => ?_)
      · have e3 : en.1 = i := by have := of_decide_eq_true e; omega
        walk_at "rd"
        refine ⟨_, hk, ?_, same_mut hs hD, ?_⟩
        · rw [tv_len]
          exact Nat.lt_of_le_of_lt hkl (by decide)
        · rw [upd_same, take_snoc he, List.filter_append, List.map_append, tv_app, show [en].filter (fun e => e.1 == i) = [en] from by rw [List.filter_cons, if_pos (by rw [beq_iff_eq]; exact e3)]; rfl]
          rfl
      · have e3 : ¬ en.1 = i := by have := of_decide_eq_false e; omega
        refine ⟨hs, ?_⟩
        rw [hk, take_snoc he, List.filter_append, List.map_append, show [en].filter (fun e => e.1 == i) = [] from by rw [List.filter_cons, if_neg (by rw [beq_iff_eq]; exact e3)]; rfl]
        simp
    · obtain ⟨hs, hk⟩ := hP
      rw [hul, List.take_length] at hk
      refine a_ll (hs _ _ hp1) hk ?_ fun r hr => ?_
      · rw [tv_len, List.length_map]
        have := List.length_filter_le (fun e : Nat × List Nat => e.1 == i) c.pe
        show 1 + _ ≤ sizeLine
        exact Nat.le_trans (show _ ≤ 2000 by omega) (by decide)
      · exact q r _ (hS1.trans (same_new hs hr)) (by rw [upd_same]; rfl)
end
end My

set_option Elab.async false
set_option linter.all false
set_option maxRecDepth 100000
set_option maxHeartbeats 1000000
namespace My
open PySem PySem.Spec PyProof.Rows L2
local macro_rules | `(tactic| walk_at "len") => `(tactic| first | assumption | omega | decide | (simp only [List.length_append, List.length_take, List.length_drop, List.length_cons, List.length_nil, List.length_replicate]; omega))
local macro_rules | `(tactic| walk_at "side") => `(tactic| first | assumption | exact Nat.zero_le _ | decide | omega)
local macro_rules | `(tactic| walk_at "rd1") => `(tactic| first
  | with_reducible refine s_seq ?_
  | with_reducible refine x_gsub ?_
  | with_reducible refine s_asg ?_
  | ((with_reducible refine s_gn ?_); dsimp only [List.set])
  | ((with_reducible refine x_var (v := ?rdv) ?rdhv ?_); (case rdhv => rfl))
  | with_reducible refine x_c ?_
  | with_reducible refine x_op ?_
  | with_reducible refine x_cons ?_
  | with_reducible refine x_nil ?_
  | with_reducible refine x_cb ?_
  | with_reducible refine x_call ?_
  | with_reducible refine x_callS ?_
  | with_reducible refine x_revT ?_
  | with_reducible refine x_dget ?_
  | with_reducible refine x_makeS ?_
  | with_reducible refine x_make ?_
  | with_reducible refine x_makeKS ?_
  | with_reducible refine x_methS ?_
  | with_reducible refine x_meth ?_
  | with_reducible refine x_methK ?_
  | with_reducible refine x_fld ?_
  | with_reducible refine s_fld ?_
  | with_reducible refine f_rt ?_
  | with_reducible refine f_zm ?_
  | with_reducible refine c_zm ?_
  | with_reducible refine x_din ?_
  | with_reducible refine x_dnotin ?_
  | with_reducible refine s_dput ?_
  | with_reducible refine x_dnew ?_
  | with_reducible refine s_try ?_
  | with_reducible refine s_raise ?_
  | with_reducible refine s_if ?_
  | with_reducible refine s_ret ?_
  | with_reducible refine s_retN ?_
  | with_reducible refine s_next ?_
  | with_reducible refine s_brk ?_
  | with_reducible refine s_cont ?_
  | with_reducible refine s_drop ?_
  | with_reducible refine s_par ?_
  | with_reducible refine s_par3 ?_
  | ((with_reducible refine s_p2 ?_); dsimp only [List.set])
  | ((with_reducible refine s_p3 ?_); dsimp only [List.set])
  | with_reducible refine f_r1 ?_
  | with_reducible refine f_r2 ?_
  | with_reducible refine f_l ?_
  | with_reducible refine f_t ?_
  | with_reducible refine f_s ?_
  | with_reducible refine c_r1 ?_
  | with_reducible refine c_r2 ?_
  | with_reducible refine c_l ?_
  | with_reducible refine c_t ?_
  | with_reducible refine c_s ?_
  | with_reducible refine x_tst ?_
  | with_reducible refine x_tru ?_
  | with_reducible refine x_truB ?_
  | with_reducible refine x_bl2 ?_
  | with_reducible refine x_int ?_
  | with_reducible refine x_str ?_
  | with_reducible refine x_not ?_
  | with_reducible refine x_and ?_
  | with_reducible refine x_or ?_
  | with_reducible refine x_andV ?_
  | with_reducible refine x_orV ?_
  | with_reducible refine x_notV ?_
  | with_reducible refine x_if ?_
  | with_reducible refine x_yes ?_
  | with_reducible refine x_un ?_
  | with_reducible refine x_tup ?_
  | with_reducible refine x_lst ?_
  | with_reducible refine x_callK ?_
  | with_reducible refine x_callK0 ?_
  | with_reducible refine x_bm ?_
  | with_reducible refine x_bm0 ?_
  | with_reducible refine x_tyS ?_
  | with_reducible refine x_sl ?_
  | with_reducible refine x_nopart ?_
  | with_reducible refine x_part ?_
  | with_reducible refine x_fmt0 ?_
  | with_reducible refine x_gc ?_
  | with_reducible refine x_gz ?_
  | with_reducible refine x_ckw ?_
  | with_reducible refine x_fmt ?_
  | with_reducible refine x_chain ?_
  | with_reducible refine a_ii ?_
  | ((with_reducible refine sl_to ?rda ?rdb ?_); (case rda => walk_at "len"); (case rdb => walk_at "len"))
  | ((with_reducible refine sl_from ?rda ?rdb ?_); (case rda => walk_at "len"); (case rdb => walk_at "len"))
  | ((with_reducible refine sl_mid ?rda ?rdb ?rdc ?_); (case rda => walk_at "len"); (case rdb => walk_at "len"); (case rdc => walk_at "len"))
  | ((with_reducible refine a_SS ?rda ?_); (case rda => walk_at "len"))
  | ((with_reducible refine ln_S ?rda ?_); (case rda => walk_at "len"))
  | with_reducible refine e_SS ?_
  | with_reducible refine ne_SS ?_
  | with_reducible refine s_ii ?_
  | ((with_reducible refine md_ii ?rdc ?_); (case rdc => first | decide | assumption | omega))
  | with_reducible refine n_i ?_
  | with_reducible refine e_ii ?_
  | with_reducible refine e_bb ?_
  | with_reducible refine ne_ii ?_
  | with_reducible refine ne_bb ?_
  | with_reducible refine lt_ii ?_
  | with_reducible refine lt_ss ?_
  | with_reducible refine le_ii ?_
  | with_reducible refine le_ss ?_
  | with_reducible refine gt_ii ?_
  | with_reducible refine gt_ss ?_
  | with_reducible refine ge_ii ?_
  | with_reducible refine e_ss ?_
  | with_reducible refine ne_ss ?_
  | with_reducible refine is_N ?_
  | with_reducible refine is_T ?_
  | with_reducible refine is_B ?_
  | with_reducible refine isn_N ?_
  | with_reducible refine isn_T ?_
  | with_reducible refine isn_B ?_
  | with_reducible refine in_s ?_
  | with_reducible refine nin_s ?_
  | with_reducible refine i_i ?_
  | with_reducible refine i_b ?_
  | with_reducible refine ab_i ?_
  | with_reducible refine mx_ii ?_
  | with_reducible refine mn_ii ?_
  | with_reducible refine ty_N ?_
  | with_reducible refine ty_B ?_
  | with_reducible refine ty_I ?_
  | with_reducible refine ty_S ?_
  | with_reducible refine ma_s ?_
  | with_reducible refine mp_s ?_
  | with_reducible refine mdg_s ?_
  | with_reducible refine mal_s ?_
  | with_reducible refine mlo_s ?_
  | with_reducible refine c_er ?_
  | with_reducible refine c_es ?_
  | with_reducible refine mf_s ?_
  | with_reducible refine iteT ?_
  | with_reducible refine iteF ?_
  | with_reducible refine iteNt ?_
  | with_reducible refine iteNf ?_
  | with_reducible refine iteTd (by decide) ?_
  | with_reducible refine iteFd (by decide) ?_
  | with_reducible refine iteNd (by decide) ?_
  | with_reducible refine iteNdF (by decide) ?_
  | ((with_reducible refine iteFd ?rdn ?_); (case rdn => (intro rdz; cases rdz; done)))
  | ((with_reducible refine iteNdF ?rdn ?_); (case rdn => (intro rdz; cases rdz; done))))
local macro_rules | `(tactic| walk_at "rd") => `(tactic| (repeat walk_at "rd1"))
section
variable {P : Program} {w : World} {K : PySem.W.Frag} {mg : Str → Option Value} {base : Heap}
/-! what a deed must tell -/
def sp_due (K : PySem.W.Frag) : Sp := fun vs H Q _ => ∃ (N : List Addr) (m : Addr) (c : Cf) (p : Addr) (de : De) (wr : Bool), vs = [.ref m, .ref p] ∧ ModAt K N H m c ∧ DeedAt K H p de wr ∧ Dok c de wr ∧ (∀ x ∈ N, H x ≠ none) ∧ ∀ r H', ModAt K N H' m (dueR c de).2 → Fr [m] H H' → Dp K H' r (dueR c de).1 → Q r H'
theorem ok_due (Y : Fx K mg) : FnOk P w K mg base CX0 2 Y.a__law_due Y.fd__law_due ["_law_model", "_law_deed_here"] (sp_due K) := by
  refine Y.F__law_due.ok sc__law_due (fun vs H Q E h => ?_) (fun cdv A outer s H vs Q E hr h => ?_)
  · obtain ⟨N, m, c, p, de, wr, rfl, _⟩ := h
    rfl
  · obtain ⟨N, m, c, p, de, wr, rfl, hM0, hde, hok, hN, q⟩ := h
    refine ⟨_, b__law_due Y (ok_newest Y) hr, ?_⟩
    show t__law_due K _ _ [some (.ref m), some (.ref p), none, none, none] H
    obtain ⟨im, pe, sg, st, out⟩ := c
    have hM := hM0
    obtain ⟨h0, ia, pl, us, h1, h2, h3, h4, h5⟩ := hM
    obtain ⟨vi, vb, hT, hvi, hvb⟩ := hde
    obtain ⟨wy, di, db⟩ := de
    obtain ⟨hwr, hlim, hroom⟩ := hok
    have h2S := im_sq h2
    have hL : ∀ x ∈ [m], ∀ o, H x = some o → NoT o := fun x hx o e => by
      rw [List.mem_singleton.mp hx, h1] at e
      cases e
      exact True.intro
    have hLL : ∀ x ∈ [m], ∀ o, H x = some o → NoL o := fun x hx o e => by
      rw [List.mem_singleton.mp hx, h1] at e
      cases e
      exact True.intro
    have bad : ∀ (way : Option V) (Qb : Bool → Hp → Prop), Qb (!isNumD 0 ((im.length : Int) - 1) di) H →
        (tOr (tNot (tTru1 K (tCB (rISI K) (tCons (tOp (rIX K) (tVar 1) (tC (.int 1))) (tCons (tC (.ty "int")) tNil))))) (tOr (tTru1 K (tCB (rISI K) (tCons (tOp (rIX K) (tVar 1) (tC (.int 1))) (tCons (tC (.ty "bool")) tNil)))) (tNot (tTest (tChain rLE rLT (tC (.int 0)) (tOp (rIX K) (tVar 1) (tC (.int 1))) (tVar 2)))))) [some (.ref m), some (.ref p), some (.int im.length), way, none] H Qb := by
      intro way Qb hq
      walk_at "rd"
      refine ix_T hT (by rfl) ?_
      walk_at "rd"
      refine isi_d hvi (kit_in hvi) ?_
      cases hvi with
      | int z =>
        have hq' : Qb (!(decide (0 ≤ z) && decide (z ≤ (im.length : Int) - 1))) H := hq
        show ∃ k, TruV K (.bl true) H k ∧ _
        walk_at "rd"
        refine ix_T hT (by rfl) ?_
        walk_at "rd"
        refine isi_d (.int z) (kit_bo (K := K) (H := H) (.int z)) ?_
        show ∃ k, TruV K (.bl false) H k ∧ _
        walk_at "rd"
        refine ix_T hT (by rfl) ?_
        walk_at "rd"
        refine ite2' (fun e => ?_) (fun e => ?_)
        · rw [e, Bool.true_and] at hq'
          walk_at "rd"
          rw [show decide (z < (im.length : Int)) = decide (z ≤ (im.length : Int) - 1) from decide_eq_decide.mpr (by omega)]
          exact hq'
        · rw [e, Bool.false_and] at hq'
          walk_at "rd"
          exact hq'
      | bl b =>
        show ∃ k, TruV K (.bl true) H k ∧ _
        walk_at "rd"
        refine ix_T hT (by rfl) ?_
        walk_at "rd"
        refine isi_d (.bl b) (kit_bo (K := K) (H := H) (.bl b)) ?_
        show ∃ k, TruV K (.bl true) H k ∧ _
        walk_at "rd"
        exact hq
      | non => show ∃ k, TruV K (.bl false) H k ∧ _; walk_at "rd"; exact hq
      | str z => show ∃ k, TruV K (.bl false) H k ∧ _; walk_at "rd"; exact hq
      | lst a b => show ∃ k, TruV K (.bl false) H k ∧ _; walk_at "rd"; exact hq
      | tup a b => show ∃ k, TruV K (.bl false) H k ∧ _; walk_at "rd"; exact hq
    have fin : ∀ (r : Addr) (c' : Cf) (H1 : Hp) (o : HO) (dd : PyData), ModAt K N H1 m c' → Fr [m] H H1 → H1 r = none → Dp K (upd H1 r o) (.ref r) dd → dueR ⟨im, pe, sg, st, out⟩ ⟨wy, di, db⟩ = (dd, c') → Q (.ref r) (upd H1 r o) := by
      intro r c' H1 o dd hM1 hF hr hx hdu
      refine q _ _ (by rw [hdu]; exact hM1.same (same_upd hr)) (hF.new hr) ?_
      rw [hdu]
      exact hx
    unfold t__law_due
    rw [show ("read" : Str) = S Wy.rd.nm from rfl, show ("write" : Str) = S Wy.wr.nm from rfl, show ("flush" : Str) = S Wy.fl.nm from rfl, show ("InvalidIndex" : Str) = S Er.ix.nm from rfl, show ("InvalidBlock" : Str) = S Er.bk.nm from rfl, show ("PowerCut" : Str) = S Er.pw.nm from rfl]
    walk_at "rd"
    refine ⟨m, _, rfl, dg h1 rfl, ?_⟩
    walk_at "rd"
    refine ln_t h2S ?_
    rw [tv_len]
    have hm_pl : pl ∉ [m] := fun z => by rw [List.mem_singleton.mp z, h1] at h3; cases h3
    have modAt : ∀ (st' : Option Nat) (H1 : Hp), H1 m = some (.dK (mdD (.ref ia) (.ref pl) sg st' false)) → Fr [m] H H1 → ModAt K N H1 m ⟨im, pe, sg, st', false⟩ := fun st' H1 hm hF =>
      ⟨⟨h0.1, h0.2, h0.3, h0.4, h0.5, h0.6, h0.7⟩, ia, pl, us, hm, fr_dp hF hL (tup_im _) h2, hF _ _ hm_pl h3, fr_dps hF hL (tup_pes _) h4, h5⟩
    have offN : ∀ (H1 : Hp) (r : Addr) (kvs : List (Key × V)), H1 m = some (.dK kvs) → Fr [m] H H1 → H1 r = none → r ∉ N := fun H1 r kvs hm hF hr hx => by
      have hn := hN r hx
      cases e : H r with
      | none => exact hn e
      | some o =>
        by_cases z : r = m
        · rw [z, hm] at hr; cases hr
        · rw [hF r o (fun y => z (List.mem_singleton.mp y)) e] at hr; cases hr
    have rest : ∀ (n b k : L2.St → Hp → Prop) (σ' : L2.St) (H' : Hp) (X : TS), X ⟨fun σ2 H2 => tRet (tLst (tCons (tC .non) tNil)) ⟨n, Q, b, k⟩ σ2 H2, Q, b, k⟩ σ' H' → tSeq X (tRet (tLst (tCons (tC .non) tNil))) ⟨n, Q, b, k⟩ σ' H' := fun n b k σ' H' X h => h
    have wtail : wy.nm.take 5 = Wy.wr.nm → ∀ (i : Nat) (l : List Nat), vi = .int i → vb = .str (S l) → i < im.length → isT l = true → l.length ≤ sg → ∀ st' : Option Nat, dueR ⟨im, pe, sg, st, out⟩ ⟨wy, di, db⟩ = (.list [.none], addC ⟨im, pe, sg, st', false⟩ i l) →
        ∀ (n b k : L2.St → Hp → Prop) (σ' : L2.St) (H' : Hp), (σ' = [some (.ref m), some (.ref p), some (.int im.length), some (.str (S (wy.nm.take 5))), none] ∧ H' m = some (.dK (mdD (.ref ia) (.ref pl) sg st' false)) ∧ Fr [m] H H') →
        (tSeq (tIfS (tTest (tOp (rEQ K) (tVar 3) (tC (.str (S Wy.wr.nm))))) (sDPut (tVar 0) (tC (.str "pending")) (tOp (rADD K) (tDGet (tVar 0) (tC (.str "pending"))) (tLst (tCons (tTup (tCons (tOp (rIX K) (tVar 1) (tC (.int 1))) (tCons (tOp (rIX K) (tVar 1) (tC (.int 2))) tNil))) tNil)))) (tSeq (sDPut (tVar 0) (tC (.str "image")) (tCB (rTUPLE K) (tCons (tLc (iRng1 (tCons (tVar 2) tNil)) (gName 4) tYes (tOp (rIX K) (tCall (sp_newest K) [] E0 (tCons (tVar 0) (tCons (tVar 4) tNil))) (tUn rNEG (tC (.int 1)))) [4]) tNil))) (sDPut (tVar 0) (tC (.str "pending")) (tLst tNil)))) (tRet (tLst (tCons (tC .non) tNil)))) ⟨n, Q, b, k⟩ σ' H' := by
      rintro hw5 i l rfl rfl hil hlT hll st' hdu n b k σ' H1 ⟨rfl, hm, hF⟩
      rw [hw5]
      have hT1 := fr_sqt hF hL hT
      have h3' := hF _ _ hm_pl h3
      have h4' := fr_dps hF hL (tup_pes _) h4
      walk_at "rd"
      refine ⟨m, _, rfl, dg hm rfl, ?_⟩
      walk_at "rd"
      refine ix_T hT1 (by rfl) ?_
      walk_at "rd"
      refine ix_T hT1 (by rfl) ?_
      walk_at "rd"
      refine ⟨by show 2 ≤ sizeLine; decide, fun p1 hp1 => ?_⟩
      walk_at "rd"
      refine ⟨by show 1 ≤ sizeLine; decide, fun p2 hp2 => ?_⟩
      have hS1 := same_upd hp1 (o := .tup [.int i, .str (S l)])
      have hS2 := same_new hS1 hp2 (o := .lst [.ref p1])
      have hx2 : (upd (upd H1 p1 (.tup [.int i, .str (S l)])) p2 (.lst [.ref p1])) p2 = some (.lst [.ref p1]) := upd_same
      have hx1 : (upd (upd H1 p1 (.tup [.int i, .str (S l)])) p2 (.lst [.ref p1])) p1 = some (.tup [.int i, .str (S l)]) := same_upd hp2 _ _ upd_same
      generalize upd (upd H1 p1 (.tup [.int i, .str (S l)])) p2 (.lst [.ref p1]) = H2 at hS2 hx1 hx2
      refine a_ll (hS2 _ _ h3') hx2 ?_ fun r hr => ?_
      · rw [dpAll_len h4, List.length_map]
        show pe.length + 1 ≤ sizeLine
        exact Nat.le_trans (show pe.length + 1 ≤ 1000 from hroom) (by decide)
      · have hS3 := same_new hS2 hr (o := .lst (us ++ [.ref p1]))
        have hone : DpAll K (upd H2 r (.lst (us ++ [.ref p1]))) [.ref p1] [peE (i, l)] := .cons (.tup (tup_of (same_upd hr _ _ hx1)) (.cons (.int _) (.cons (.str _) .nil))) .nil
        have hrN := offN H2 r _ (hS2 _ _ hm) (hF.trans (Fr.of hS2)) hr
        walk_at "rd"
        refine ⟨m, _, rfl, dpu (hS3 _ _ hm), ?_⟩
        have hok2 : Cok (addC ⟨im, pe, sg, st', false⟩ i l) := addC_ok ⟨h0.1, h0.2, h0.3, h0.4, h0.5, h0.6, h0.7⟩ hil hlT hll hroom
        have hM1 := ModAt.put (N := N) (K := K) (c' := addC ⟨im, pe, sg, st', false⟩ i l) (us := us ++ [.ref p1]) hok2 (hS3 _ _ hm) (dp_mono hS3 _ _ (fr_dp hF hL (tup_im _) h2)) upd_same (by show DpAll K _ _ ((pe ++ [(i, l)]).map peE); rw [List.map_append]; exact dps_app (dpAll_mono hS3 _ _ h4') hone) hrN
        have hF1 := (hF.trans (Fr.of hS3)).upd (o := .dK (mdD (.ref ia) (.ref r) sg st' false)) (List.mem_singleton_self m)
        walk_at "rd"
        refine ⟨by show 1 ≤ sizeLine; decide, fun r2 hr2 => ?_⟩
        exact fin r2 _ _ _ _ hM1 hF1 hr2 (.lst (lst_of upd_same) (.cons .non .nil)) hdu
    have ftail : wy = .fl → ∀ st' : Option Nat, dueR ⟨im, pe, sg, st, out⟩ ⟨wy, di, db⟩ = (.list [.none], flC ⟨im, pe, sg, st', false⟩) →
        ∀ (n b k : L2.St → Hp → Prop) (σ' : L2.St) (H' : Hp), (σ' = [some (.ref m), some (.ref p), some (.int im.length), some (.str (S (Wy.fl.nm.take 5))), none] ∧ H' m = some (.dK (mdD (.ref ia) (.ref pl) sg st' false)) ∧ Fr [m] H H') →
        (tSeq (tIfS (tTest (tOp (rEQ K) (tVar 3) (tC (.str (S Wy.wr.nm))))) (sDPut (tVar 0) (tC (.str "pending")) (tOp (rADD K) (tDGet (tVar 0) (tC (.str "pending"))) (tLst (tCons (tTup (tCons (tOp (rIX K) (tVar 1) (tC (.int 1))) (tCons (tOp (rIX K) (tVar 1) (tC (.int 2))) tNil))) tNil)))) (tSeq (sDPut (tVar 0) (tC (.str "image")) (tCB (rTUPLE K) (tCons (tLc (iRng1 (tCons (tVar 2) tNil)) (gName 4) tYes (tOp (rIX K) (tCall (sp_newest K) [] E0 (tCons (tVar 0) (tCons (tVar 4) tNil))) (tUn rNEG (tC (.int 1)))) [4]) tNil))) (sDPut (tVar 0) (tC (.str "pending")) (tLst tNil)))) (tRet (tLst (tCons (tC .non) tNil)))) ⟨n, Q, b, k⟩ σ' H' := by
      rintro rfl st' hdu n b k σ' H1 ⟨rfl, hm, hF⟩
      have hMM := modAt st' H1 hm hF
      have h200 := h0.l200
      walk_at "rd"
      have h200i : im.length ≤ 200 := h200
      refine lcR1_mk (by omega) (by omega) (fun D i H' => Same H1 H' ∧ H' D = some (.lst (tv ((flI im pe).take i)))) (fun D hD => ⟨same_upd hD, upd_same⟩) (fun D i H' hD hi hP => ?_) (fun D H' hD hP => ?_)
      · obtain ⟨hs, hk⟩ := hP
        rw [Int.toNat_natCast] at hi
        refine ⟨rfl, ?_⟩
        walk_at "rd"
        refine ⟨N, m, _, i, rfl, hMM.same hs, hi, fun q2 H2 hS2 hq2 => ?_⟩
        walk_at "rd"
        have hlen := (newL_len (im := im) (pe := pe) (i := i)).1
        have hlast : (tv (newL im pe i))[(newL im pe i).length - 1]? = some (.str (S (topL im pe i))) := by
          unfold tv topL
          rw [List.getElem?_map, List.getLastD_eq_getLast?, ← List.getLast?_eq_getElem?, List.getLast?_eq_some_getLast newL_ne]
          rfl
        refine ix_L (lst_of hq2) (at_last (n := (newL im pe i).length - 1) (by rw [tv_len]; show (newL im pe i).length = (newL im pe i).length - 1 + 1; omega) hlast) ?_
        refine ⟨_, hS2 _ _ hk, ?_, same_mut (hs.trans hS2) hD, ?_⟩
        · rw [tv_len, List.length_take]
          exact Nat.lt_of_le_of_lt (show min i _ ≤ 200 from Nat.le_trans (Nat.min_le_left _ _) (by have : im.length ≤ 200 := h200; omega)) (by decide)
        · have hch : (flI im pe)[i]? = some (topL im pe i) := by
            unfold flI
            rw [List.getElem?_map, List.getElem?_range hi]
            rfl
          rw [upd_same, take_snoc hch, tv_app]
          rfl
      · obtain ⟨hs, hk⟩ := hP
        rw [Int.toNat_natCast, List.take_of_length_le (by rw [flI_len]; exact Nat.le_refl _)] at hk
        walk_at "rd"
        refine tu_L (lst_of hk) fun r hr => ?_
        walk_at "rd"
        have hS2 := same_new hs hr (o := .tup (tv (flI im pe)))
        have hrT : SqT K (upd H' r (.tup (tv (flI im pe)))) r (tv (flI im pe)) := tup_of upd_same
        generalize upd H' r (.tup (tv (flI im pe))) = H2 at hS2 hrT
        refine ⟨m, _, rfl, dpu (hS2 _ _ hm), ?_⟩
        have hF2 := (hF.trans (Fr.of hS2)).upd (o := .dK (mdD (.ref r) (.ref pl) sg st' false)) (List.mem_singleton_self m)
        have hL2 : ∀ x ∈ [m], ∀ o, H2 x = some o → NoT o := fun x hx o e => by
          rw [List.mem_singleton.mp hx, hS2 _ _ hm] at e
          cases e
          exact True.intro
        have hi2 : Dp K (upd H2 m (.dK (mdD (.ref r) (.ref pl) sg st' false))) (.ref r) (imD (flI im pe)) := fr_dp ((Fr.refl H2).upd (List.mem_singleton_self m)) hL2 (tup_im _) (sq_im hrT)
        have hm2 : (upd H2 m (.dK (mdD (.ref r) (.ref pl) sg st' false))) m = some (.dK (mdD (.ref r) (.ref pl) sg st' false)) := upd_same
        show tLst tNil _ (upd H2 m (.dK (mdD (.ref r) (.ref pl) sg st' false))) _
        generalize upd H2 m (.dK (mdD (.ref r) (.ref pl) sg st' false)) = H3 at hF2 hi2 hm2
        walk_at "rd"
        refine ⟨Nat.zero_le _, fun p2 hp2 => ?_⟩
        walk_at "rd"
        have hS3 := same_upd hp2 (o := .lst [])
        refine ⟨m, _, rfl, dpu (hS3 _ _ hm2), ?_⟩
        have hok2 : Cok (flC ⟨im, pe, sg, st', false⟩) := flC_ok ⟨h0.1, h0.2, h0.3, h0.4, h0.5, h0.6, h0.7⟩
        have hM1 := ModAt.put (N := N) (K := K) (c' := flC ⟨im, pe, sg, st', false⟩) (us := []) hok2 (hS3 _ _ hm2) (dp_mono hS3 _ _ hi2) upd_same .nil (offN H3 p2 _ hm2 hF2 hp2)
        have hF3 := (hF2.trans (Fr.of hS3)).upd (o := .dK (mdD (.ref r) (.ref p2) sg st' false)) (List.mem_singleton_self m)
        walk_at "rd"
        refine ⟨by show 1 ≤ sizeLine; decide, fun r2 hr2 => ?_⟩
        exact fin r2 _ _ _ _ hM1 hF3 hr2 (.lst (lst_of upd_same) (.cons .non .nil)) hdu
    cases wy with
    | rd =>
      have hT : SqT K H p [.str (S Wy.rd.nm), vi, vb, .bl wr] := hT
      walk_at "rd"
      refine ix_T hT (by rfl) ?_
      iterate 17 walk_at "rd1"
      cases hn : isNumD 0 ((im.length : Int) - 1) di with
      | false =>
        refine bad _ _ ?_
        rw [hn]
        walk_at "rd"
        refine ⟨by show 1 ≤ sizeLine; decide, fun r hr => ?_⟩
        exact fin _ _ _ _ _ hM0 (Fr.refl H) hr (.tup (tup_of upd_same) (.cons (.str _) .nil)) (due1 (fun z => nomatch z) hn)
      | true =>
        refine bad _ _ ?_
        rw [hn]
        walk_at "rd"
        refine ⟨m, _, rfl, dg h1 rfl, ?_⟩
        walk_at "rd"
        cases out with
        | true =>
          walk_at "rd"
          refine ⟨by show 1 ≤ sizeLine; decide, fun r hr => ?_⟩
          exact fin _ _ _ _ _ hM0 (Fr.refl H) hr (.tup (tup_of upd_same) (.cons (.str _) .nil)) (due3 rfl hn rfl)
        | false =>
          obtain ⟨i, rfl, hil⟩ := num_nat hn
          obtain rfl := dp_int' hvi
          walk_at "rd"
          refine ix_T hT (by rfl) ?_
          walk_at "rd"
          refine ⟨N, m, _, i, rfl, hM0, hil, fun q2 H2 hS2 hq2 => ?_⟩
          walk_at "rd"
          have hlen := (newL_len (im := im) (pe := pe) (i := i)).1
          have hlast : (tv (newL im pe i))[(newL im pe i).length - 1]? = some (.str (S (topL im pe i))) := by
            unfold tv topL
            rw [List.getElem?_map, List.getLastD_eq_getLast?, ← List.getLast?_eq_getElem?, List.getLast?_eq_some_getLast newL_ne]
            rfl
          refine ix_L (lst_of hq2) (at_last (n := (newL im pe i).length - 1) (by rw [tv_len]; show (newL im pe i).length = (newL im pe i).length - 1 + 1; omega) hlast) ?_
          walk_at "rd"
          refine ⟨by show 1 ≤ sizeLine; decide, fun r hr => ?_⟩
          exact fin _ _ _ _ _ (hM0.same hS2) (Fr.of hS2) hr (.lst (lst_of upd_same) (.cons (.str _) .nil)) (due4 rfl rfl hil rfl)
    | rdn =>
      have hT : SqT K H p [.str (S Wy.rdn.nm), vi, vb, .bl wr] := hT
      walk_at "rd"
      refine ix_T hT (by rfl) ?_
      iterate 17 walk_at "rd1"
      cases hn : isNumD 0 ((im.length : Int) - 1) di with
      | false =>
        refine bad _ _ ?_
        rw [hn]
        walk_at "rd"
        refine ⟨by show 1 ≤ sizeLine; decide, fun r hr => ?_⟩
        exact fin _ _ _ _ _ hM0 (Fr.refl H) hr (.tup (tup_of upd_same) (.cons (.str _) .nil)) (due1 (fun z => nomatch z) hn)
      | true =>
        refine bad _ _ ?_
        rw [hn]
        walk_at "rd"
        refine ⟨m, _, rfl, dg h1 rfl, ?_⟩
        walk_at "rd"
        cases out with
        | true =>
          walk_at "rd"
          refine ⟨by show 1 ≤ sizeLine; decide, fun r hr => ?_⟩
          exact fin _ _ _ _ _ hM0 (Fr.refl H) hr (.tup (tup_of upd_same) (.cons (.str _) .nil)) (due3 rfl hn rfl)
        | false =>
          obtain ⟨i, rfl, hil⟩ := num_nat hn
          obtain rfl := dp_int' hvi
          walk_at "rd"
          refine ix_T hT (by rfl) ?_
          walk_at "rd"
          refine ⟨N, m, _, i, rfl, hM0, hil, fun q2 H2 hS2 hq2 => ?_⟩
          walk_at "rd"
          have hlen := (newL_len (im := im) (pe := pe) (i := i)).1
          have hlast : (tv (newL im pe i))[(newL im pe i).length - 1]? = some (.str (S (topL im pe i))) := by
            unfold tv topL
            rw [List.getElem?_map, List.getLastD_eq_getLast?, ← List.getLast?_eq_getElem?, List.getLast?_eq_some_getLast newL_ne]
            rfl
          refine ix_L (lst_of hq2) (at_last (n := (newL im pe i).length - 1) (by rw [tv_len]; show (newL im pe i).length = (newL im pe i).length - 1 + 1; omega) hlast) ?_
          walk_at "rd"
          refine ⟨by show 1 ≤ sizeLine; decide, fun r hr => ?_⟩
          exact fin _ _ _ _ _ (hM0.same hS2) (Fr.of hS2) hr (.lst (lst_of upd_same) (.cons (.str _) .nil)) (due4 rfl rfl hil rfl)
    | wr =>
      have hT : SqT K H p [.str (S Wy.wr.nm), vi, vb, .bl wr] := hT
      walk_at "rd"
      refine ix_T hT (by rfl) ?_
      iterate 17 walk_at "rd1"
      cases hn : isNumD 0 ((im.length : Int) - 1) di with
      | false =>
        refine bad _ _ ?_
        rw [hn]
        walk_at "rd"
        refine ⟨by show 1 ≤ sizeLine; decide, fun r hr => ?_⟩
        exact fin _ _ _ _ _ hM0 (Fr.refl H) hr (.tup (tup_of upd_same) (.cons (.str _) .nil)) (due1 (fun z => nomatch z) hn)
      | true =>
        refine bad _ _ ?_
        rw [hn]
        walk_at "rd"
        refine ix_T hT (by rfl) ?_
        cases hb : isBkD sg db with
        | false =>
          obtain rfl : wr = true := by rw [hwr]; show (!isBkD sg db) = true; rw [hb]; rfl
          walk_at "rd"
          refine ⟨by show 1 ≤ sizeLine; decide, fun r hr => ?_⟩
          exact fin _ _ _ _ _ hM0 (Fr.refl H) hr (.tup (tup_of upd_same) (.cons (.str _) .nil)) (due2 rfl hn hb)
        | true =>
          obtain rfl : wr = false := by rw [hwr]; show (!isBkD sg db) = false; rw [hb]; rfl
          walk_at "rd"
          refine ⟨m, _, rfl, dg h1 rfl, ?_⟩
          walk_at "rd"
          cases out with
          | true =>
            walk_at "rd"
            refine ⟨by show 1 ≤ sizeLine; decide, fun r hr => ?_⟩
            exact fin _ _ _ _ _ hM0 (Fr.refl H) hr (.tup (tup_of upd_same) (.cons (.str _) .nil)) (due5 rfl hn hb rfl)
          | false =>
            obtain ⟨i, rfl, hil⟩ := num_nat hn
            obtain rfl := dp_int' hvi
            obtain ⟨l, rfl, hlT, hll⟩ := bk_str hb
            obtain rfl := dp_str' hvb
            walk_at "rd"
            refine ⟨m, _, rfl, dg h1 rfl, ?_⟩
            walk_at "rd"
            refine e_d (dp_st H st) (.int 0) (by cases st <;> rfl) rfl ?_
            match st with
            | some 0 =>
              show ∃ k, V.bl true = .bl k ∧ _
              walk_at "rd"
              refine ⟨m, _, rfl, dpu h1, ?_⟩
              have hM1 := ModAt.put (m := m) (c' := ⟨im, pe, sg, some 0, true⟩) (N := N) (stepR_ok (c := ⟨im, pe, sg, some 0, false⟩) h0) h1 h2 h3 h4 h5
              have hF1 : Fr [m] H (upd H m (.dK (mdD (.ref ia) (.ref pl) sg (some 0) true))) := (Fr.refl H).upd (List.mem_singleton_self m)
              show tRet _ _ _ (upd H m (.dK (mdD (.ref ia) (.ref pl) sg (some 0) true)))
              generalize upd H m (.dK (mdD (.ref ia) (.ref pl) sg (some 0) true)) = H1 at hM1 hF1
              walk_at "rd"
              refine ⟨by show 1 ≤ sizeLine; decide, fun r hr => ?_⟩
              exact fin _ _ _ _ _ hM1 hF1 hr (.tup (tup_of upd_same) (.cons (.str _) .nil)) (due5 rfl hn hb rfl)
            | none =>
              show ∃ k, V.bl false = .bl k ∧ _
              walk_at "rd"
              refine s_cut (fun σ' H' => σ' = [some (.ref m), some (.ref p), some (.int im.length), some (.str (S (Wy.wr.nm.take 5))), none] ∧ H' m = some (.dK (mdD (.ref ia) (.ref pl) sg none false)) ∧ Fr [m] H H') ?_ ?_
              · walk_at "rd"
                refine ⟨m, _, rfl, dg h1 rfl, ?_⟩
                walk_at "rd"
                refine iteNd rfl ?_
                exact ⟨rfl, h1, Fr.refl H⟩
              · exact wtail rfl i l rfl rfl hil hlT hll none (due6 rfl rfl hil rfl hlT hll rfl) _ _ _
            | some (n + 1) =>
              have hz : PyData.eqv (stD (some (n + 1))) (.int 0) = false := by
                show decide (((n + 1 : Nat) : Int) = 0) = false
                exact decide_eq_false (by omega)
              rw [hz]
              walk_at "rd"
              refine s_cut (fun σ' H' => σ' = [some (.ref m), some (.ref p), some (.int im.length), some (.str (S (Wy.wr.nm.take 5))), none] ∧ H' m = some (.dK (mdD (.ref ia) (.ref pl) sg (some n) false)) ∧ Fr [m] H H') ?_ ?_
              · walk_at "rd"
                refine ⟨m, _, rfl, dg h1 rfl, ?_⟩
                walk_at "rd"
                refine ⟨m, _, rfl, dg h1 rfl, ?_⟩
                show rSUB (.int ((n + 1 : Nat) : Int)) _ _ _
                walk_at "rd"
                rw [show ((n + 1 : Nat) : Int) - 1 = (n : Int) by omega]
                refine ⟨m, _, rfl, dpu h1, ?_⟩
                exact ⟨rfl, upd_same, (Fr.refl H).upd (List.mem_singleton_self m)⟩
              · exact wtail rfl i l rfl rfl hil hlT hll (some n) (due6 rfl rfl hil rfl hlT hll rfl) _ _ _
    | wrn =>
      have hT : SqT K H p [.str (S Wy.wrn.nm), vi, vb, .bl wr] := hT
      walk_at "rd"
      refine ix_T hT (by rfl) ?_
      iterate 17 walk_at "rd1"
      cases hn : isNumD 0 ((im.length : Int) - 1) di with
      | false =>
        refine bad _ _ ?_
        rw [hn]
        walk_at "rd"
        refine ⟨by show 1 ≤ sizeLine; decide, fun r hr => ?_⟩
        exact fin _ _ _ _ _ hM0 (Fr.refl H) hr (.tup (tup_of upd_same) (.cons (.str _) .nil)) (due1 (fun z => nomatch z) hn)
      | true =>
        refine bad _ _ ?_
        rw [hn]
        walk_at "rd"
        refine ix_T hT (by rfl) ?_
        cases hb : isBkD sg db with
        | false =>
          obtain rfl : wr = true := by rw [hwr]; show (!isBkD sg db) = true; rw [hb]; rfl
          walk_at "rd"
          refine ⟨by show 1 ≤ sizeLine; decide, fun r hr => ?_⟩
          exact fin _ _ _ _ _ hM0 (Fr.refl H) hr (.tup (tup_of upd_same) (.cons (.str _) .nil)) (due2 rfl hn hb)
        | true =>
          obtain rfl : wr = false := by rw [hwr]; show (!isBkD sg db) = false; rw [hb]; rfl
          walk_at "rd"
          refine ⟨m, _, rfl, dg h1 rfl, ?_⟩
          walk_at "rd"
          cases out with
          | true =>
            walk_at "rd"
            refine ⟨by show 1 ≤ sizeLine; decide, fun r hr => ?_⟩
            exact fin _ _ _ _ _ hM0 (Fr.refl H) hr (.tup (tup_of upd_same) (.cons (.str _) .nil)) (due5 rfl hn hb rfl)
          | false =>
            obtain ⟨i, rfl, hil⟩ := num_nat hn
            obtain rfl := dp_int' hvi
            obtain ⟨l, rfl, hlT, hll⟩ := bk_str hb
            obtain rfl := dp_str' hvb
            walk_at "rd"
            refine ⟨m, _, rfl, dg h1 rfl, ?_⟩
            walk_at "rd"
            refine e_d (dp_st H st) (.int 0) (by cases st <;> rfl) rfl ?_
            match st with
            | some 0 =>
              show ∃ k, V.bl true = .bl k ∧ _
              walk_at "rd"
              refine ⟨m, _, rfl, dpu h1, ?_⟩
              have hM1 := ModAt.put (m := m) (c' := ⟨im, pe, sg, some 0, true⟩) (N := N) (stepR_ok (c := ⟨im, pe, sg, some 0, false⟩) h0) h1 h2 h3 h4 h5
              have hF1 : Fr [m] H (upd H m (.dK (mdD (.ref ia) (.ref pl) sg (some 0) true))) := (Fr.refl H).upd (List.mem_singleton_self m)
              show tRet _ _ _ (upd H m (.dK (mdD (.ref ia) (.ref pl) sg (some 0) true)))
              generalize upd H m (.dK (mdD (.ref ia) (.ref pl) sg (some 0) true)) = H1 at hM1 hF1
              walk_at "rd"
              refine ⟨by show 1 ≤ sizeLine; decide, fun r hr => ?_⟩
              exact fin _ _ _ _ _ hM1 hF1 hr (.tup (tup_of upd_same) (.cons (.str _) .nil)) (due5 rfl hn hb rfl)
            | none =>
              show ∃ k, V.bl false = .bl k ∧ _
              walk_at "rd"
              refine s_cut (fun σ' H' => σ' = [some (.ref m), some (.ref p), some (.int im.length), some (.str (S (Wy.wrn.nm.take 5))), none] ∧ H' m = some (.dK (mdD (.ref ia) (.ref pl) sg none false)) ∧ Fr [m] H H') ?_ ?_
              · walk_at "rd"
                refine ⟨m, _, rfl, dg h1 rfl, ?_⟩
                walk_at "rd"
                refine iteNd rfl ?_
                exact ⟨rfl, h1, Fr.refl H⟩
              · exact wtail rfl i l rfl rfl hil hlT hll none (due6 rfl rfl hil rfl hlT hll rfl) _ _ _
            | some (n + 1) =>
              have hz : PyData.eqv (stD (some (n + 1))) (.int 0) = false := by
                show decide (((n + 1 : Nat) : Int) = 0) = false
                exact decide_eq_false (by omega)
              rw [hz]
              walk_at "rd"
              refine s_cut (fun σ' H' => σ' = [some (.ref m), some (.ref p), some (.int im.length), some (.str (S (Wy.wrn.nm.take 5))), none] ∧ H' m = some (.dK (mdD (.ref ia) (.ref pl) sg (some n) false)) ∧ Fr [m] H H') ?_ ?_
              · walk_at "rd"
                refine ⟨m, _, rfl, dg h1 rfl, ?_⟩
                walk_at "rd"
                refine ⟨m, _, rfl, dg h1 rfl, ?_⟩
                show rSUB (.int ((n + 1 : Nat) : Int)) _ _ _
                walk_at "rd"
                rw [show ((n + 1 : Nat) : Int) - 1 = (n : Int) by omega]
                refine ⟨m, _, rfl, dpu h1, ?_⟩
                exact ⟨rfl, upd_same, (Fr.refl H).upd (List.mem_singleton_self m)⟩
              · exact wtail rfl i l rfl rfl hil hlT hll (some n) (due6 rfl rfl hil rfl hlT hll rfl) _ _ _
    | fl =>
      have hT : SqT K H p [.str (S Wy.fl.nm), vi, vb, .bl wr] := hT
      walk_at "rd"
      refine ix_T hT (by rfl) ?_
      walk_at "rd"
      refine ⟨m, _, rfl, dg h1 rfl, ?_⟩
      walk_at "rd"
      cases out with
      | true =>
        walk_at "rd"
        refine ⟨by show 1 ≤ sizeLine; decide, fun r hr => ?_⟩
        exact fin _ _ _ _ _ hM0 (Fr.refl H) hr (.tup (tup_of upd_same) (.cons (.str _) .nil)) (due7 rfl rfl)
      | false =>
          walk_at "rd"
          refine ⟨m, _, rfl, dg h1 rfl, ?_⟩
          walk_at "rd"
          refine e_d (dp_st H st) (.int 0) (by cases st <;> rfl) rfl ?_
          match st with
          | some 0 =>
            show ∃ k, V.bl true = .bl k ∧ _
            walk_at "rd"
            refine ⟨m, _, rfl, dpu h1, ?_⟩
            have hM1 := ModAt.put (m := m) (c' := ⟨im, pe, sg, some 0, true⟩) (N := N) (stepR_ok (c := ⟨im, pe, sg, some 0, false⟩) h0) h1 h2 h3 h4 h5
            have hF1 : Fr [m] H (upd H m (.dK (mdD (.ref ia) (.ref pl) sg (some 0) true))) := (Fr.refl H).upd (List.mem_singleton_self m)
            show tRet _ _ _ (upd H m (.dK (mdD (.ref ia) (.ref pl) sg (some 0) true)))
            generalize upd H m (.dK (mdD (.ref ia) (.ref pl) sg (some 0) true)) = H1 at hM1 hF1
            walk_at "rd"
            refine ⟨by show 1 ≤ sizeLine; decide, fun r hr => ?_⟩
            exact fin _ _ _ _ _ hM1 hF1 hr (.tup (tup_of upd_same) (.cons (.str _) .nil)) (due7 rfl rfl)
          | none =>
            show ∃ k, V.bl false = .bl k ∧ _
            walk_at "rd"
            refine s_cut (fun σ' H' => σ' = [some (.ref m), some (.ref p), some (.int im.length), some (.str (S (Wy.fl.nm.take 5))), none] ∧ H' m = some (.dK (mdD (.ref ia) (.ref pl) sg none false)) ∧ Fr [m] H H') ?_ ?_
            · walk_at "rd"
              refine ⟨m, _, rfl, dg h1 rfl, ?_⟩
              walk_at "rd"
              refine iteNd rfl ?_
              exact ⟨rfl, h1, Fr.refl H⟩
            · exact ftail rfl none (due8 rfl rfl) _ _ _
          | some (n + 1) =>
            have hz : PyData.eqv (stD (some (n + 1))) (.int 0) = false := by
              show decide (((n + 1 : Nat) : Int) = 0) = false
              exact decide_eq_false (by omega)
            rw [hz]
            walk_at "rd"
            refine s_cut (fun σ' H' => σ' = [some (.ref m), some (.ref p), some (.int im.length), some (.str (S (Wy.fl.nm.take 5))), none] ∧ H' m = some (.dK (mdD (.ref ia) (.ref pl) sg (some n) false)) ∧ Fr [m] H H') ?_ ?_
            · walk_at "rd"
              refine ⟨m, _, rfl, dg h1 rfl, ?_⟩
              walk_at "rd"
              refine ⟨m, _, rfl, dg h1 rfl, ?_⟩
              show rSUB (.int ((n + 1 : Nat) : Int)) _ _ _
              walk_at "rd"
              rw [show ((n + 1 : Nat) : Int) - 1 = (n : Int) by omega]
              refine ⟨m, _, rfl, dpu h1, ?_⟩
              exact ⟨rfl, upd_same, (Fr.refl H).upd (List.mem_singleton_self m)⟩
            · exact ftail rfl (some n) (due8 rfl rfl) _ _ _
end
end My

set_option Elab.async false
set_option linter.all false
set_option maxRecDepth 100000
set_option maxHeartbeats 1000000
namespace My
open PySem PySem.Spec PyProof.Rows L2
local macro_rules | `(tactic| walk_at "len") => `(tactic| first | assumption | omega | decide | (simp only [List.length_append, List.length_take, List.length_drop, List.length_cons, List.length_nil, List.length_replicate]; omega))
local macro_rules | `(tactic| walk_at "side") => `(tactic| first | assumption | exact Nat.zero_le _ | decide | omega)
local macro_rules | `(tactic| walk_at "rd1") => `(tactic| first
  | with_reducible refine s_seq ?_
  | with_reducible refine x_gsub ?_
  | with_reducible refine s_asg ?_
  | ((with_reducible refine s_gn ?_); dsimp only [List.set])
  | ((with_reducible refine x_var (v := ?rdv) ?rdhv ?_); (case rdhv => rfl))
  | with_reducible refine x_c ?_
  | with_reducible refine x_op ?_
  | with_reducible refine x_cons ?_
  | with_reducible refine x_nil ?_
  | with_reducible refine x_cb ?_
  | with_reducible refine x_call ?_
  | with_reducible refine x_callS ?_
  | with_reducible refine x_revT ?_
  | with_reducible refine x_dget ?_
  | with_reducible refine x_makeS ?_
  | with_reducible refine x_make ?_
  | with_reducible refine x_makeKS ?_
  | with_reducible refine x_methS ?_
  | with_reducible refine x_meth ?_
  | with_reducible refine x_methK ?_
  | with_reducible refine x_fld ?_
  | with_reducible refine s_fld ?_
  | with_reducible refine f_rt ?_
  | with_reducible refine f_zm ?_
  | with_reducible refine c_zm ?_
  | with_reducible refine x_din ?_
  | with_reducible refine x_dnotin ?_
  | with_reducible refine s_dput ?_
  | with_reducible refine x_dnew ?_
  | with_reducible refine s_try ?_
  | with_reducible refine s_raise ?_
  | with_reducible refine s_if ?_
  | with_reducible refine s_ret ?_
  | with_reducible refine s_retN ?_
  | with_reducible refine s_next ?_
  | with_reducible refine s_brk ?_
  | with_reducible refine s_cont ?_
  | with_reducible refine s_drop ?_
  | with_reducible refine s_par ?_
  | with_reducible refine s_par3 ?_
  | ((with_reducible refine s_p2 ?_); dsimp only [List.set])
  | ((with_reducible refine s_p3 ?_); dsimp only [List.set])
  | with_reducible refine f_r1 ?_
  | with_reducible refine f_r2 ?_
  | with_reducible refine f_l ?_
  | with_reducible refine f_t ?_
  | with_reducible refine f_s ?_
  | with_reducible refine c_r1 ?_
  | with_reducible refine c_r2 ?_
  | with_reducible refine c_l ?_
  | with_reducible refine c_t ?_
  | with_reducible refine c_s ?_
  | with_reducible refine x_tst ?_
  | with_reducible refine x_tru ?_
  | with_reducible refine x_truB ?_
  | with_reducible refine x_bl2 ?_
  | with_reducible refine x_int ?_
  | with_reducible refine x_str ?_
  | with_reducible refine x_not ?_
  | with_reducible refine x_and ?_
  | with_reducible refine x_or ?_
  | with_reducible refine x_andV ?_
  | with_reducible refine x_orV ?_
  | with_reducible refine x_notV ?_
  | with_reducible refine x_if ?_
  | with_reducible refine x_yes ?_
  | with_reducible refine x_un ?_
  | with_reducible refine x_tup ?_
  | with_reducible refine x_lst ?_
  | with_reducible refine x_callK ?_
  | with_reducible refine x_callK0 ?_
  | with_reducible refine x_bm ?_
  | with_reducible refine x_bm0 ?_
  | with_reducible refine x_tyS ?_
  | with_reducible refine x_sl ?_
  | with_reducible refine x_nopart ?_
  | with_reducible refine x_part ?_
  | with_reducible refine x_fmt0 ?_
  | with_reducible refine x_gc ?_
  | with_reducible refine x_gz ?_
  | with_reducible refine x_ckw ?_
  | with_reducible refine x_fmt ?_
  | with_reducible refine x_chain ?_
  | with_reducible refine a_ii ?_
  | ((with_reducible refine sl_to ?rda ?rdb ?_); (case rda => walk_at "len"); (case rdb => walk_at "len"))
  | ((with_reducible refine sl_from ?rda ?rdb ?_); (case rda => walk_at "len"); (case rdb => walk_at "len"))
  | ((with_reducible refine sl_mid ?rda ?rdb ?rdc ?_); (case rda => walk_at "len"); (case rdb => walk_at "len"); (case rdc => walk_at "len"))
  | ((with_reducible refine a_SS ?rda ?_); (case rda => walk_at "len"))
  | ((with_reducible refine ln_S ?rda ?_); (case rda => walk_at "len"))
  | with_reducible refine e_SS ?_
  | with_reducible refine ne_SS ?_
  | with_reducible refine s_ii ?_
  | ((with_reducible refine md_ii ?rdc ?_); (case rdc => first | decide | assumption | omega))
  | with_reducible refine n_i ?_
  | with_reducible refine e_ii ?_
  | with_reducible refine e_bb ?_
  | with_reducible refine ne_ii ?_
  | with_reducible refine ne_bb ?_
  | with_reducible refine lt_ii ?_
  | with_reducible refine lt_ss ?_
  | with_reducible refine le_ii ?_
  | with_reducible refine le_ss ?_
  | with_reducible refine gt_ii ?_
  | with_reducible refine gt_ss ?_
  | with_reducible refine ge_ii ?_
  | with_reducible refine e_ss ?_
  | with_reducible refine ne_ss ?_
  | with_reducible refine is_N ?_
  | with_reducible refine is_T ?_
  | with_reducible refine is_B ?_
  | with_reducible refine isn_N ?_
  | with_reducible refine isn_T ?_
  | with_reducible refine isn_B ?_
  | with_reducible refine in_s ?_
  | with_reducible refine nin_s ?_
  | with_reducible refine i_i ?_
  | with_reducible refine i_b ?_
  | with_reducible refine ab_i ?_
  | with_reducible refine mx_ii ?_
  | with_reducible refine mn_ii ?_
  | with_reducible refine ty_N ?_
  | with_reducible refine ty_B ?_
  | with_reducible refine ty_I ?_
  | with_reducible refine ty_S ?_
  | with_reducible refine ma_s ?_
  | with_reducible refine mp_s ?_
  | with_reducible refine mdg_s ?_
  | with_reducible refine mal_s ?_
  | with_reducible refine mlo_s ?_
  | with_reducible refine c_er ?_
  | with_reducible refine c_es ?_
  | with_reducible refine mf_s ?_
  | with_reducible refine iteT ?_
  | with_reducible refine iteF ?_
  | with_reducible refine iteNt ?_
  | with_reducible refine iteNf ?_
  | with_reducible refine iteTd (by decide) ?_
  | with_reducible refine iteFd (by decide) ?_
  | with_reducible refine iteNd (by decide) ?_
  | with_reducible refine iteNdF (by decide) ?_
  | ((with_reducible refine iteFd ?rdn ?_); (case rdn => (intro rdz; cases rdz; done)))
  | ((with_reducible refine iteNdF ?rdn ?_); (case rdn => (intro rdz; cases rdz; done))))
local macro_rules | `(tactic| walk_at "rd") => `(tactic| (repeat walk_at "rd1"))
section
variable {P : Program} {w : World} {K : PySem.W.Frag} {mg : Str → Option Value} {base : Heap}
/-! a drawn deed -/
theorem frm_fr {s g : Addr} {H H' : Hp} (h : Frm s g H H') : Fr [s, g] H H' := fun a o ha e => h a o (fun z => ha (by rw [z]; exact List.mem_cons_self)) (fun z => ha (by rw [z]; exact List.mem_cons_of_mem _ (List.mem_singleton_self g))) e
theorem spr_notT {H : Hp} {s g : Addr} (h : SprAt H s g) : ∀ x ∈ [s, g], ∀ o, H x = some o → NoT o := fun x hx o e => by
  obtain ⟨gr, m, c, h1, h2, _⟩ := h
  rcases List.mem_cons.mp hx with z | z
  · rw [z, h1] at e; cases e; exact True.intro
  · rw [List.mem_singleton.mp z, h2] at e; cases e; exact True.intro
theorem ModAt.spr {H H' : Hp} {s g m : Addr} {c : Cf} (h : ModAt K [s, g] H m c) (hs : SprAt H s g) (hF : Frm s g H H') : ModAt K [s, g] H' m c := by
  refine h.keep (frm_fr hF) (spr_notT hs) (fun x hx => .inl hx) fun hm => ?_
  obtain ⟨_, ia, pl, us, h1, _⟩ := h
  obtain ⟨gr, a, b, h3, h4, _⟩ := hs
  rcases List.mem_cons.mp hm with z | z
  · rw [z, h3] at h1; cases h1
  · rw [List.mem_singleton.mp z, h4] at h1; cases h1
theorem off_sg {H : Hp} {s g p : Addr} (hs : SprAt H s g) (hp : H p = none) : p ∉ [s, g] := fun hm => by
  obtain ⟨o1, o2⟩ := hs.off hp
  rcases List.mem_cons.mp hm with z | z
  · exact o1 z
  · exact o2 (List.mem_singleton.mp z)
def wys : List Wy := [.wr, .wrn, .wr, .wr, .rd, .rdn, .fl, .wr, .rd]
theorem str_inj {a b : List Nat} (h : PyData.str (S a) = .str (S b)) : a = b := by
  injection h with h
  exact congrArg (fun z : Str => z.cps.toList) h
def badP (n : Nat) (d : PyData) : Prop := isBkD n d = false ∧ ∀ l, d = .str (S l) → l.length ≤ 300000
theorem bad_str {n : Nat} {l : List Nat} (h : isT l = false ∨ n < l.length) (hl : l.length ≤ 300000) : badP n (.str (S l)) := ⟨by
  show (isT l && decide (l.length ≤ n)) = false
  rcases h with h | h
  · rw [h]; rfl
  · rw [decide_eq_false (by omega), Bool.and_false], fun l2 e => by rw [← str_inj e]; exact hl⟩
theorem bad_cons {n : Nat} {d : PyData} {ds : List PyData} (h : badP n d) (hs : ∀ e ∈ ds, badP n e) : ∀ e ∈ d :: ds, badP n e := fun e he => (List.mem_cons.mp he).elim (fun z => by rw [z]; exact h) (hs e)
theorem bad_nil {n : Nat} : ∀ e ∈ ([] : List PyData), badP n e := fun e he => by cases he
def sp_deed (K : PySem.W.Frag) : Sp := fun vs H Q _ => ∃ (s g m : Addr) (c : Cf), vs = [.ref s, .ref m] ∧ SprAt H s g ∧ ModAt K [s, g] H m c ∧ c.pe.length < 1000 ∧ ∀ p H' de wr, SprAt H' s g → Frm s g H H' → DeedAt K (ms [s, g] H') p de wr → Dok c de wr → Q (.ref p) H'
theorem ok_deed (Y : Fx K mg) : FnOk P w K mg base CX0 3 Y.a__law_deed Y.fd__law_deed ["_law_spring_here", "_law_model"] (sp_deed K) := by
  refine Y.F__law_deed.ok sc__law_deed (fun vs H Q E h => ?_) (fun cdv A outer st H vs Q E hr h => ?_)
  · obtain ⟨s, g, m, c, rfl, _⟩ := h
    rfl
  · obtain ⟨s, g, m, c, rfl, hSp, hM, hroom, q⟩ := h
    refine ⟨_, b__law_deed Y (ok__law_drop Y) (ok__law_text Y) hr, ?_⟩
    show t__law_deed K _ _ _ [some (.ref s), some (.ref m), none, none, none, none, none, none, none] H
    have h0 := hM.1
    have h4 := h0.l4
    have h200 := h0.l200
    have s0 := h0.s0
    have s1 := h0.s1
    unfold t__law_deed
    rw [show ("read" : Str) = S Wy.rd.nm from rfl, show ("read by name" : Str) = S Wy.rdn.nm from rfl, show ("write" : Str) = S Wy.wr.nm from rfl, show ("write by name" : Str) = S Wy.wrn.nm from rfl, show ("flush" : Str) = S Wy.fl.nm from rfl, show ("x" : Str) = S [120] from rfl, show ("a" : Str) = S [97] from rfl, show ("a\n" : Str) = S [97, 10] from rfl, show ("\tb" : Str) = S [9, 98] from rfl]
    walk_at "rd"
    obtain ⟨_, ia, pl, us, m1, m2, m3, m4, m5⟩ := id hM
    refine ⟨m, _, rfl, dg m1 rfl, ?_⟩
    walk_at "rd"
    refine ln_t (im_sq m2) ?_
    rw [tv_len]
    walk_at "rd"
    refine ⟨s, g, _, rfl, hSp, by omega, by omega, fun i1 H1 i0 i2 hSp1 hF1 => ?_⟩
    walk_at "rd"
    refine s_cut (fun σ' H' => ∃ v : Int, 0 ≤ v ∧ v < c.im.length ∧ σ' = [some (.ref s), some (.ref m), some (.int v), none, none, none, none, none, none] ∧ SprAt H' s g ∧ Frm s g H H') ?_ ?_
    · walk_at "rd"
      refine ⟨s, g, 3, rfl, hSp1, by decide, by decide, fun r1 H2 _ _ hSp2 hF2 => ?_⟩
      walk_at "rd"
      refine ite2' (fun e => ?_) (fun e => ?_)
      · walk_at "rd"
        refine fd_ii ⟨by decide, by decide⟩ ?_
        walk_at "rd"
        exact ⟨i1 / 3, by omega, by omega, rfl, hSp2, hF1.trans hF2⟩
      · exact ⟨i1, i0, i2, rfl, hSp2, hF1.trans hF2⟩
    rintro _ H2 ⟨v, v0, v1, rfl, hSp2, hF2⟩
    refine s_cut (fun σ' H' => ∃ (vi : V) (di : PyData) (o : Option V), σ' = [some (.ref s), some (.ref m), some vi, o, none, none, none, none, none] ∧ SprAt H' s g ∧ Frm s g H H' ∧ Dp K (ms [s, g] H') vi di) ?_ ?_
    · walk_at "rd"
      refine ⟨s, g, 7, rfl, hSp2, by decide, by decide, fun r2 H3 _ _ hSp3 hF3 => ?_⟩
      have hF13 := hF2.trans hF3
      have hM3 : ModAt K [s, g] H3 m c := hM.spr hSp hF13
      walk_at "rd"
      refine ite2' (fun e => ?_) (fun e => ?_)
      · obtain ⟨_, ia, pl, us, m1, m2, m3, m4, m5⟩ := id hM3
        walk_at "rd"
        refine ⟨m, _, rfl, dg m1 rfl, ?_⟩
        walk_at "rd"
        refine ln_t (im_sq m2) ?_
        rw [tv_len]
        walk_at "rd"
        refine ⟨by show 1 ≤ sizeLine; decide, fun p1 hp1 => ?_⟩
        have hS1 := same_upd hp1 (o := .tup [.int 0])
        walk_at "rd"
        refine pw_ii ⟨by decide, by decide, by decide⟩ ?_
        walk_at "rd"
        refine ⟨m, _, rfl, dg (hS1 _ _ m1) rfl, ?_⟩
        walk_at "rd"
        refine ln_t (same_sqt hS1 (im_sq m2)) ?_
        rw [tv_len]
        walk_at "rd"
        refine ⟨Nat.zero_le _, fun p2 hp2 => ?_⟩
        have hS2 := same_new hS1 hp2 (o := .lst [])
        walk_at "rd"
        refine ⟨by show 10 ≤ sizeLine; decide, fun p3 hp3 => ?_⟩
        have hq1 : (upd (upd H3 p1 (.tup [.int 0])) p2 (.lst [])) p1 = some (.tup [.int 0]) := same_upd hp2 _ _ upd_same
        have hq2 : (upd (upd H3 p1 (.tup [.int 0])) p2 (.lst [])) p2 = some (.lst []) := upd_same
        have hn1 : p1 ∉ [s, g] := off_sg hSp3 hp1
        have hn2 : p2 ∉ [s, g] := off_sg (hSp3.new hp1) hp2
        have hn3 : p3 ∉ [s, g] := off_sg ((hSp3.new hp1).new hp2) hp3
        have hSp4 := ((hSp3.new hp1 (o := .tup [.int 0])).new hp2 (o := .lst [])).new hp3 (o := .lst [.int (-1), .int c.im.length, .bl true, .bl false, .non, .str "0", .ref p1, .int (10 ^ Int.toNat 30), .int (-(c.im.length : Int)), .ref p2])
        have hF4 := ((hF13.new hp1 (o := .tup [.int 0])).new hp2 (o := .lst [])).new hp3 (o := .lst [.int (-1), .int c.im.length, .bl true, .bl false, .non, .str "0", .ref p1, .int (10 ^ Int.toNat 30), .int (-(c.im.length : Int)), .ref p2])
        have hq1' := same_upd hp3 (o := .lst [.int (-1), .int c.im.length, .bl true, .bl false, .non, .str "0", .ref p1, .int (10 ^ Int.toNat 30), .int (-(c.im.length : Int)), .ref p2]) _ _ hq1
        have hq2' := same_upd hp3 (o := .lst [.int (-1), .int c.im.length, .bl true, .bl false, .non, .str "0", .ref p1, .int (10 ^ Int.toNat 30), .int (-(c.im.length : Int)), .ref p2]) _ _ hq2
        have hq3 : (upd (upd (upd H3 p1 (.tup [.int 0])) p2 (.lst [])) p3 (.lst [.int (-1), .int c.im.length, .bl true, .bl false, .non, .str "0", .ref p1, .int (10 ^ Int.toNat 30), .int (-(c.im.length : Int)), .ref p2])) p3 = some (.lst [.int (-1), .int c.im.length, .bl true, .bl false, .non, .str "0", .ref p1, .int (10 ^ Int.toNat 30), .int (-(c.im.length : Int)), .ref p2]) := upd_same
        generalize upd (upd (upd H3 p1 (.tup [.int 0])) p2 (.lst [])) p3 (.lst [.int (-1), .int c.im.length, .bl true, .bl false, .non, .str "0", .ref p1, .int (10 ^ Int.toNat 30), .int (-(c.im.length : Int)), .ref p2]) = H4 at hSp4 hF4 hq1' hq2' hq3
        walk_at "rd"
        refine ⟨s, g, 10, rfl, hSp4, by decide, by decide, fun r3 H5 r30 r31 hSp5 hF5 => ?_⟩
        have hf := frm_fr hF5
        have hall : DpAll K (ms [s, g] H5) [.int (-1), .int c.im.length, .bl true, .bl false, .non, .str "0", .ref p1, .int (10 ^ Int.toNat 30), .int (-(c.im.length : Int)), .ref p2] [.int (-1), .int c.im.length, .bool true, .bool false, .none, .str "0", .tuple [.int 0], .int (10 ^ Int.toNat 30), .int (-(c.im.length : Int)), .list []] :=
          .cons (.int _) (.cons (.int _) (.cons (.bl _) (.cons (.bl _) (.cons .non (.cons (.str _) (.cons (.tup (tup_of (ms_at hn1 (hf _ _ hn1 hq1'))) (.cons (.int _) .nil)) (.cons (.int _) (.cons (.int _) (.cons (.lst (lst_of (ms_at hn2 (hf _ _ hn2 hq2'))) .nil) .nil)))))))))
        obtain ⟨w0, e0, d0⟩ := dpAll_get hall (i := r3.toNat) (by show r3.toNat < 10; omega)
        refine ix_L (lst_of (hf _ _ hn3 hq3)) (at_nat r30 e0) ?_
        walk_at "rd"
        exact ⟨w0, _, _, rfl, hSp5, hF4.trans hF5, d0⟩
      · exact ⟨.int v, .int v, none, rfl, hSp3, hF13, .int v⟩
    rintro _ H3 ⟨vi, di, o, rfl, hSp3, hF3, hdi⟩
    have hM3 : ModAt K [s, g] H3 m c := hM.spr hSp hF3
    obtain ⟨_, ia, pl, us, m1, m2, m3, m4, m5⟩ := id hM3
    walk_at "rd"
    refine ⟨m, _, rfl, dg m1 rfl, ?_⟩
    walk_at "rd"
    refine ⟨s, g, 9, rfl, hSp3, by decide, by decide, fun r4 H4 r40 r41 hSp4 hF4 => ?_⟩
    walk_at "rd"
    refine ⟨by show 5 ≤ sizeLine; decide, fun p4 hp4 => ?_⟩
    walk_at "rd"
    refine ⟨s, g, 5, rfl, hSp4.new hp4, by decide, by decide, fun r5 H5 r50 r51 hSp5 hF5 => ?_⟩
    have hn4 := off_sg hSp4 hp4
    walk_at "rd"
    have hF35 := (hF4.new hp4 (o := .lst [.int 0, .int 1, .int 2, .int c.sg, .int r4])).trans hF5
    refine ix_rng (lo := 0) (hi := c.sg) (lst_of (frm_fr hF5 _ _ hn4 upd_same)) (rng_cons (by omega) (by omega) (rng_cons (by omega) (by omega) (rng_cons (by omega) (by omega) (rng_cons (by omega) (by omega) (rng_cons (by omega) (by omega) rng_nil))))) r50 (by show r5 < ((5 : Nat) : Int); omega) fun z z0 z1 => ?_
    obtain ⟨zn, rfl⟩ : ∃ zn : Nat, z = zn := ⟨z.toNat, by omega⟩
    walk_at "rd"
    refine ⟨s, g, zn, rfl, hSp5, by omega, fun l H6 hll hlT hSp6 hF6 => ?_⟩
    walk_at "rd"
    refine ⟨s, g, 6, rfl, hSp6, by decide, by decide, fun r6 H7 _ _ hSp7 hF7 => ?_⟩
    have hF37 := (hF35.trans hF6).trans hF7
    have hdi7 := dp_mono (ms_frm (L := [s, g]) List.mem_cons_self (List.mem_cons_of_mem _ (List.mem_singleton_self g)) hF37) _ _ hdi
    have hFb := hF3.trans hF37
    walk_at "rd"
    refine s_cut (fun σ' H' => ∃ (vb : V) (db : PyData) (o : Option V) (wr : Bool), σ' = [some (.ref s), some (.ref m), some vi, o, some (.int c.sg), some vb, some (.bl wr), none, none] ∧ SprAt H' s g ∧ Frm s g H H' ∧ Dp K (ms [s, g] H') vi di ∧ Dp K (ms [s, g] H') vb db ∧ Dok c ⟨.fl, di, db⟩ wr) ?_ ?_
    · walk_at "rd"
      refine ite2' (fun e => ?_) (fun e => ?_)
      · walk_at "rd"
        refine ⟨by show 1 ≤ sizeLine; decide, fun p1 hp1 => ?_⟩
        have hS1 := same_upd hp1 (o := .tup [.str (S [97])])
        have hSq1 := hSp7.new hp1 (o := .tup [.str (S [97])])
        walk_at "rd"
        refine ⟨by show 1 ≤ sizeLine; decide, fun p2 hp2 => ?_⟩
        have hS2 := same_new hS1 hp2 (o := .lst [.str (S [97])])
        have hSq2 := hSq1.new hp2 (o := .lst [.str (S [97])])
        walk_at "rd"
        refine m_SI (by omega) (by omega) (by show 1 * _ ≤ 1000000; omega) ?_
        rw [rep1]
        walk_at "rd"
        refine m_SI (by decide) (by decide) (by decide) ?_
        rw [rep1]
        walk_at "rd"
        refine ⟨Nat.zero_le _, fun p3 hp3 => ?_⟩
        have hS3 := same_new hS2 hp3 (o := .lst [])
        have hSq3 := hSq2.new hp3 (o := .lst [])
        walk_at "rd"
        refine ⟨Nat.zero_le _, fun p4 hp4 => ?_⟩
        have hS4 := same_new hS3 hp4 (o := .tup [])
        have hSq4 := hSq3.new hp4 (o := .tup [])
        walk_at "rd"
        refine ⟨by show 11 ≤ sizeLine; decide, fun p5 hp5 => ?_⟩
        have a1 : (upd (upd (upd (upd H7 p1 (.tup [.str (S [97])])) p2 (.lst [.str (S [97])])) p3 (.lst [])) p4 (.tup [])) p1 = some (.tup [.str (S [97])]) := same_upd hp4 _ _ (same_upd hp3 _ _ (same_upd hp2 _ _ upd_same))
        have a2 : (upd (upd (upd (upd H7 p1 (.tup [.str (S [97])])) p2 (.lst [.str (S [97])])) p3 (.lst [])) p4 (.tup [])) p2 = some (.lst [.str (S [97])]) := same_upd hp4 _ _ (same_upd hp3 _ _ upd_same)
        have a3 : (upd (upd (upd (upd H7 p1 (.tup [.str (S [97])])) p2 (.lst [.str (S [97])])) p3 (.lst [])) p4 (.tup [])) p3 = some (.lst []) := same_upd hp4 _ _ upd_same
        have a4 : (upd (upd (upd (upd H7 p1 (.tup [.str (S [97])])) p2 (.lst [.str (S [97])])) p3 (.lst [])) p4 (.tup [])) p4 = some (.tup []) := upd_same
        have n1 := off_sg hSp7 hp1
        have n2 := off_sg hSq1 hp2
        have n3 := off_sg hSq2 hp3
        have n4 := off_sg hSq3 hp4
        have n5 := off_sg hSq4 hp5
        generalize upd (upd (upd (upd H7 p1 (.tup [.str (S [97])])) p2 (.lst [.str (S [97])])) p3 (.lst [])) p4 (.tup []) = Ha at hS4 hSq4 a1 a2 a3 a4 hp5
        generalize hxs : [V.non, .int 7, .bl true, .ref p1, .ref p2, .str (S [97, 10]), .str (S [9, 98]), .str (S (List.replicate (Int.toNat ((c.sg : Int) + 1)) 120)), .str (S (List.replicate (Int.toNat 1001) 120)), .ref p3, .ref p4] = xs
        have hSq5 := hSq4.new hp5 (o := .lst xs)
        have a5 : (upd Ha p5 (.lst xs)) p5 = some (.lst xs) := upd_same
        have hS5 := same_upd hp5 (o := .lst xs)
        have b1 := hS5 _ _ a1
        have b2 := hS5 _ _ a2
        have b3 := hS5 _ _ a3
        have b4 := hS5 _ _ a4
        have hF5 : Frm s g H (upd Ha p5 (.lst xs)) := hFb.trans (Frm.of (hS4.trans hS5))
        have hd5 : Dp K (ms [s, g] (upd Ha p5 (.lst xs))) vi di := dp_mono (ms_same (hS4.trans hS5)) _ _ hdi7
        generalize upd Ha p5 (.lst xs) = Hb at hSq5 a5 b1 b2 b3 b4 hF5 hd5
        walk_at "rd"
        refine ⟨s, g, 11, rfl, hSq5, by decide, by decide, fun r8 H8 r80 r81 hSp8 hF8 => ?_⟩
        have hf := frm_fr hF8
        have hall : DpAll K (ms [s, g] H8) xs [.none, .int 7, .bool true, .tuple [.str (S [97])], .list [.str (S [97])], .str (S [97, 10]), .str (S [9, 98]), .str (S (List.replicate (Int.toNat ((c.sg : Int) + 1)) 120)), .str (S (List.replicate (Int.toNat 1001) 120)), .list [], .tuple []] := by
          rw [← hxs]
          exact .cons .non (.cons (.int _) (.cons (.bl _) (.cons (.tup (tup_of (ms_at n1 (hf _ _ n1 b1))) (.cons (.str _) .nil)) (.cons (.lst (lst_of (ms_at n2 (hf _ _ n2 b2))) (.cons (.str _) .nil)) (.cons (.str _) (.cons (.str _) (.cons (.str _) (.cons (.str _) (.cons (.lst (lst_of (ms_at n3 (hf _ _ n3 b3))) .nil) (.cons (.tup (tup_of (ms_at n4 (hf _ _ n4 b4))) .nil) .nil))))))))))
        have hbad : ∀ d ∈ ([.none, .int 7, .bool true, .tuple [.str (S [97])], .list [.str (S [97])], .str (S [97, 10]), .str (S [9, 98]), .str (S (List.replicate (Int.toNat ((c.sg : Int) + 1)) 120)), .str (S (List.replicate (Int.toNat 1001) 120)), .list [], .tuple []] : List PyData), badP c.sg d :=
          bad_cons ⟨rfl, fun _ e => by cases e⟩ (bad_cons ⟨rfl, fun _ e => by cases e⟩ (bad_cons ⟨rfl, fun _ e => by cases e⟩ (bad_cons ⟨rfl, fun _ e => by cases e⟩ (bad_cons ⟨rfl, fun _ e => by cases e⟩ (bad_cons (bad_str (.inl (by decide)) (by decide)) (bad_cons (bad_str (.inl (by decide)) (by decide)) (bad_cons (bad_str (.inr (by rw [List.length_replicate]; omega)) (by rw [List.length_replicate]; omega)) (bad_cons (bad_str (.inr (by rw [List.length_replicate]; show c.sg < 1001; omega)) (by rw [List.length_replicate]; decide)) (bad_cons ⟨rfl, fun _ e => by cases e⟩ (bad_cons ⟨rfl, fun _ e => by cases e⟩ bad_nil))))))))))
        obtain ⟨w0, e0, d0⟩ := dpAll_get hall (i := r8.toNat) (by show r8.toNat < 11; omega)
        have hb0 := hbad _ (List.getElem_mem (by show r8.toNat < 11; omega))
        refine ix_L (lst_of (hf _ _ n5 a5)) (at_nat r80 e0) ?_
        walk_at "rd"
        have hms := ms_frm (L := [s, g]) List.mem_cons_self (List.mem_cons_of_mem _ (List.mem_singleton_self g)) hF8
        refine ⟨w0, _, some (.ref p5), true, ?_, hSp8, hF5.trans hF8, dp_mono hms _ _ hd5, d0, ⟨?_, hb0.2, hroom⟩⟩
        · rw [e]
        · show true = !isBkD c.sg _
          rw [hb0.1]
          rfl
      · refine ⟨.str (S l), .str (S l), o, false, ?_, hSp7, hFb, hdi7, .str _, ⟨?_, fun l2 e2 => ?_, hroom⟩⟩
        · rw [e]
        · show false = !(isT l && decide (l.length ≤ c.sg))
          rw [hlT, decide_eq_true (by omega)]
          rfl
        · have e3 : l = l2 := by
            injection e2 with e2
            have := congrArg (fun z : Str => z.cps.toList) e2
            exact this
          subst e3
          omega
    rintro _ H8 ⟨vb, db, o2, wr, rfl, hSp8, hF8, hdi8, hdb8, hok⟩
    walk_at "rd"
    refine ⟨s, g, 9, rfl, hSp8, by decide, by decide, fun r7 H9 r70 r71 hSp9 hF9 => ?_⟩
    walk_at "rd"
    refine ⟨by show 9 ≤ sizeLine; decide, fun p9 hp9 => ?_⟩
    have hwl : r7.toNat < wys.length := by show r7.toNat < 9; omega
    walk_at "rd"
    refine ix_L (lst_of upd_same) (at_nat r70 (v := .str (S (wys[r7.toNat]).nm)) (by show (wys.map fun w => V.str (S w.nm))[r7.toNat]? = _; rw [List.getElem?_map, List.getElem?_eq_getElem hwl]; rfl)) ?_
    walk_at "rd"
    refine ⟨by show 4 ≤ sizeLine; decide, fun p10 hp10 => ?_⟩
    have hSp10 := hSp9.new hp9 (o := .lst (wys.map fun w => V.str (S w.nm)))
    have hn10 := off_sg hSp10 hp10
    have hms : Same (ms [s, g] H8) (ms [s, g] (upd (upd H9 p9 (.lst (wys.map fun w => V.str (S w.nm)))) p10 (.tup [.str (S (wys[r7.toNat]).nm), vi, vb, .bl wr]))) :=
      ((ms_frm List.mem_cons_self (List.mem_cons_of_mem _ (List.mem_singleton_self g)) hF9).trans (ms_new hp9)).trans (ms_new hp10)
    refine q p10 _ ⟨wys[r7.toNat], di, db⟩ wr (hSp10.new hp10) ((hF8.trans hF9).new hp9 |>.new hp10) ⟨vi, vb, tup_of (ms_at hn10 upd_same), dp_mono hms _ _ hdi8, dp_mono hms _ _ hdb8⟩ ⟨hok.1, hok.2, hok.3⟩
end
end My

set_option Elab.async false
set_option linter.all false
set_option maxRecDepth 100000
set_option maxHeartbeats 1000000
namespace My
open PySem PySem.Spec PyProof.Rows L2
local macro_rules | `(tactic| walk_at "len") => `(tactic| first | assumption | omega | decide | (simp only [List.length_append, List.length_take, List.length_drop, List.length_cons, List.length_nil, List.length_replicate]; omega))
local macro_rules | `(tactic| walk_at "side") => `(tactic| first | assumption | exact Nat.zero_le _ | decide | omega)
local macro_rules | `(tactic| walk_at "rd1") => `(tactic| first
  | with_reducible refine s_seq ?_
  | with_reducible refine x_gsub ?_
  | with_reducible refine s_asg ?_
  | ((with_reducible refine s_gn ?_); dsimp only [List.set])
  | ((with_reducible refine x_var (v := ?rdv) ?rdhv ?_); (case rdhv => rfl))
  | with_reducible refine x_c ?_
  | with_reducible refine x_op ?_
  | with_reducible refine x_cons ?_
  | with_reducible refine x_nil ?_
  | with_reducible refine x_cb ?_
  | with_reducible refine x_call ?_
  | with_reducible refine x_callS ?_
  | with_reducible refine x_revT ?_
  | with_reducible refine x_dget ?_
  | with_reducible refine x_makeS ?_
  | with_reducible refine x_make ?_
  | with_reducible refine x_makeKS ?_
  | with_reducible refine x_methS ?_
  | with_reducible refine x_meth ?_
  | with_reducible refine x_methK ?_
  | with_reducible refine x_fld ?_
  | with_reducible refine s_fld ?_
  | with_reducible refine f_rt ?_
  | with_reducible refine f_zm ?_
  | with_reducible refine c_zm ?_
  | with_reducible refine x_din ?_
  | with_reducible refine x_dnotin ?_
  | with_reducible refine s_dput ?_
  | with_reducible refine x_dnew ?_
  | with_reducible refine s_try ?_
  | with_reducible refine s_raise ?_
  | with_reducible refine s_if ?_
  | with_reducible refine s_ret ?_
  | with_reducible refine s_retN ?_
  | with_reducible refine s_next ?_
  | with_reducible refine s_brk ?_
  | with_reducible refine s_cont ?_
  | with_reducible refine s_drop ?_
  | with_reducible refine s_par ?_
  | with_reducible refine s_par3 ?_
  | ((with_reducible refine s_p2 ?_); dsimp only [List.set])
  | ((with_reducible refine s_p3 ?_); dsimp only [List.set])
  | with_reducible refine f_r1 ?_
  | with_reducible refine f_r2 ?_
  | with_reducible refine f_l ?_
  | with_reducible refine f_t ?_
  | with_reducible refine f_s ?_
  | with_reducible refine c_r1 ?_
  | with_reducible refine c_r2 ?_
  | with_reducible refine c_l ?_
  | with_reducible refine c_t ?_
  | with_reducible refine c_s ?_
  | with_reducible refine x_tst ?_
  | with_reducible refine x_tru ?_
  | with_reducible refine x_truB ?_
  | with_reducible refine x_bl2 ?_
  | with_reducible refine x_int ?_
  | with_reducible refine x_str ?_
  | with_reducible refine x_not ?_
  | with_reducible refine x_and ?_
  | with_reducible refine x_or ?_
  | with_reducible refine x_andV ?_
  | with_reducible refine x_orV ?_
  | with_reducible refine x_notV ?_
  | with_reducible refine x_if ?_
  | with_reducible refine x_yes ?_
  | with_reducible refine x_un ?_
  | with_reducible refine x_tup ?_
  | with_reducible refine x_lst ?_
  | with_reducible refine x_callK ?_
  | with_reducible refine x_callK0 ?_
  | with_reducible refine x_bm ?_
  | with_reducible refine x_bm0 ?_
  | with_reducible refine x_tyS ?_
  | with_reducible refine x_sl ?_
  | with_reducible refine x_nopart ?_
  | with_reducible refine x_part ?_
  | with_reducible refine x_fmt0 ?_
  | with_reducible refine x_gc ?_
  | with_reducible refine x_gz ?_
  | with_reducible refine x_ckw ?_
  | with_reducible refine x_fmt ?_
  | with_reducible refine x_chain ?_
  | with_reducible refine a_ii ?_
  | ((with_reducible refine sl_to ?rda ?rdb ?_); (case rda => walk_at "len"); (case rdb => walk_at "len"))
  | ((with_reducible refine sl_from ?rda ?rdb ?_); (case rda => walk_at "len"); (case rdb => walk_at "len"))
  | ((with_reducible refine sl_mid ?rda ?rdb ?rdc ?_); (case rda => walk_at "len"); (case rdb => walk_at "len"); (case rdc => walk_at "len"))
  | ((with_reducible refine a_SS ?rda ?_); (case rda => walk_at "len"))
  | ((with_reducible refine ln_S ?rda ?_); (case rda => walk_at "len"))
  | with_reducible refine e_SS ?_
  | with_reducible refine ne_SS ?_
  | with_reducible refine s_ii ?_
  | ((with_reducible refine md_ii ?rdc ?_); (case rdc => first | decide | assumption | omega))
  | with_reducible refine n_i ?_
  | with_reducible refine e_ii ?_
  | with_reducible refine e_bb ?_
  | with_reducible refine ne_ii ?_
  | with_reducible refine ne_bb ?_
  | with_reducible refine lt_ii ?_
  | with_reducible refine lt_ss ?_
  | with_reducible refine le_ii ?_
  | with_reducible refine le_ss ?_
  | with_reducible refine gt_ii ?_
  | with_reducible refine gt_ss ?_
  | with_reducible refine ge_ii ?_
  | with_reducible refine e_ss ?_
  | with_reducible refine ne_ss ?_
  | with_reducible refine is_N ?_
  | with_reducible refine is_T ?_
  | with_reducible refine is_B ?_
  | with_reducible refine isn_N ?_
  | with_reducible refine isn_T ?_
  | with_reducible refine isn_B ?_
  | with_reducible refine in_s ?_
  | with_reducible refine nin_s ?_
  | with_reducible refine i_i ?_
  | with_reducible refine i_b ?_
  | with_reducible refine ab_i ?_
  | with_reducible refine mx_ii ?_
  | with_reducible refine mn_ii ?_
  | with_reducible refine ty_N ?_
  | with_reducible refine ty_B ?_
  | with_reducible refine ty_I ?_
  | with_reducible refine ty_S ?_
  | with_reducible refine ma_s ?_
  | with_reducible refine mp_s ?_
  | with_reducible refine mdg_s ?_
  | with_reducible refine mal_s ?_
  | with_reducible refine mlo_s ?_
  | with_reducible refine c_er ?_
  | with_reducible refine c_es ?_
  | with_reducible refine mf_s ?_
  | with_reducible refine iteT ?_
  | with_reducible refine iteF ?_
  | with_reducible refine iteNt ?_
  | with_reducible refine iteNf ?_
  | with_reducible refine iteTd (by decide) ?_
  | with_reducible refine iteFd (by decide) ?_
  | with_reducible refine iteNd (by decide) ?_
  | with_reducible refine iteNdF (by decide) ?_
  | ((with_reducible refine iteFd ?rdn ?_); (case rdn => (intro rdz; cases rdz; done)))
  | ((with_reducible refine iteNdF ?rdn ?_); (case rdn => (intro rdz; cases rdz; done))))
local macro_rules | `(tactic| walk_at "rd") => `(tactic| (repeat walk_at "rd1"))
section
variable {P : Program} {w : World} {K : PySem.W.Frag} {mg : Str → Option Value} {base : Heap}
/-! what stands, and what a cut leaves -/
theorem SprAt.same {H H' : Hp} {s g : Addr} (h : SprAt H s g) (hS : Same H H') : SprAt H' s g := by
  obtain ⟨gr, m, c, h1, h2, h3⟩ := h
  exact ⟨gr, m, c, hS _ _ h1, hS _ _ h2, h3⟩
theorem DiskAt.spr {C : Addr} {H H' : Hp} {s g d : Addr} {c : Cf} (h : DiskAt K C H d c) (hs : SprAt H s g) (hF : Frm s g H H') : DiskAt K C H' d c := by
  refine h.keep (frm_fr hF) (spr_notT hs) fun hm => ?_
  obtain ⟨_, dx, ia, pa, h1, _⟩ := h
  obtain ⟨gr, a, b, h3, h4, _⟩ := hs
  rcases List.mem_cons.mp hm with z | z
  · rw [z, h3] at h1; cases h1
  · rw [List.mem_singleton.mp z, h4] at h1; cases h1
theorem fine_bool (b : Bool) : ∀ n, Fine n (.bool b)
  | 0 => rfl
  | _ + 1 => rfl
theorem fine_st (o : Option Nat) (n : Nat) : Fine n (stD o) := by
  cases o with
  | none => exact fine_non n
  | some k => exact fine_int _ n
theorem fine_im {im : List (List Nat)} {sg n : Nat} (hl : im.length ≤ 200) (hb : Blk sg im) : Fine (n + 1) (imD im) := fine_tup (by rw [List.length_map]; omega) fun e he => by
  obtain ⟨l, hm, rfl⟩ := List.mem_map.mp he
  exact fine_str (hb l hm).1 _
theorem fine_pe {c : Cf} (h : Cok c) {n : Nat} : Fine (n + 2) (peD c.pe) := fine_tup (by rw [List.length_map]; have := h.pl; omega) fun e he => by
  obtain ⟨x, hm, rfl⟩ := List.mem_map.mp he
  exact fine_tup (by show 2 ≤ 100000; decide) (all2 (fine_int _ _) (fine_str (h.pb x hm).2.1 _))
theorem all1 {α : Type} {F : α → Prop} {a : α} (h : F a) : ∀ e ∈ [a], F e := fun e he => by rw [List.mem_singleton.mp he]; exact h
theorem all5 {α : Type} {F : α → Prop} {a b c d f : α} (h1 : F a) (h2 : F b) (h3 : F c) (h4 : F d) (h5 : F f) : ∀ e ∈ [a, b, c, d, f], F e := fun e he => by
  rcases List.mem_cons.mp he with z | z
  · rw [z]; exact h1
  rcases List.mem_cons.mp z with z | z
  · rw [z]; exact h2
  · exact all3 h3 h4 h5 e z
def sp_stands (C : Addr) (K : PySem.W.Frag) : Sp := fun vs H Q _ => ∃ (N : List Addr) (d m : Addr) (c : Cf), vs = [.ref d, .ref m] ∧ DiskAt K C H d c ∧ ModAt K N H m c ∧ ∀ H', Same H H' → Q (.bl true) H'
theorem ok_stands (Y : Fx K mg) : FnOk P w K mg base CX0 6 Y.a__law_stands Y.fd__law_stands ["_law_disk", "_law_model"] (sp_stands Y.C_Disk K) := by
  refine Y.F__law_stands.ok sc__law_stands (fun vs H Q E h => ?_) (fun cdv A outer st H vs Q E hr h => ?_)
  · obtain ⟨N, d, m, c, rfl, _⟩ := h
    rfl
  · obtain ⟨N, d, m, c, rfl, hD, hM, q⟩ := h
    refine ⟨_, b__law_stands Y (ok__law_alike Y 3) hr, ?_⟩
    show t__law_stands K _ _ [some (.ref d), some (.ref m), none, none] H
    obtain ⟨h0, dx, ia, pa, hd, hi, hp⟩ := hD
    obtain ⟨_, ja, pl, us, m1, m2, m3, m4, m5⟩ := hM
    unfold t__law_stands
    walk_at "rd"
    refine ⟨d, _, dx, _, _, rfl, hd, Y.c_Disk, Y.n_Disk_image, lk_im, ?_⟩
    walk_at "rd"
    refine ⟨d, _, dx, _, _, rfl, hd, Y.c_Disk, Y.n_Disk_pending, lk_pe, ?_⟩
    walk_at "rd"
    refine ⟨d, _, dx, _, _, rfl, hd, Y.c_Disk, Y.n_Disk_signs, lk_sg, ?_⟩
    walk_at "rd"
    refine ⟨d, _, dx, _, _, rfl, hd, Y.c_Disk, Y.n_Disk_steps, lk_st, ?_⟩
    walk_at "rd"
    refine ⟨d, _, dx, _, _, rfl, hd, Y.c_Disk, Y.n_Disk_out, lk_out, ?_⟩
    walk_at "rd"
    refine ⟨by show 5 ≤ sizeLine; decide, fun p1 hp1 => ?_⟩
    have hS1 := same_upd hp1 (o := .lst [.ref ia, .ref pa, .int c.sg, stV c.st, .bl c.out])
    have hq1 : (upd H p1 (.lst [.ref ia, .ref pa, .int c.sg, stV c.st, .bl c.out])) p1 = some (.lst [.ref ia, .ref pa, .int c.sg, stV c.st, .bl c.out]) := upd_same
    generalize upd H p1 (.lst [.ref ia, .ref pa, .int c.sg, stV c.st, .bl c.out]) = H1 at hS1 hq1
    walk_at "rd"
    refine ⟨m, _, rfl, dg (hS1 _ _ m1) rfl, ?_⟩
    walk_at "rd"
    refine ⟨m, _, rfl, dg (hS1 _ _ m1) rfl, ?_⟩
    walk_at "rd"
    refine tu_L (lst_of (hS1 _ _ m3)) fun t ht => ?_
    have hS2 := same_new hS1 ht (o := .tup us)
    have ht2 : (upd H1 t (.tup us)) t = some (.tup us) := upd_same
    have hq2 := same_upd ht (o := .tup us) _ _ hq1
    generalize upd H1 t (.tup us) = H2 at hS2 ht2 hq2
    walk_at "rd"
    refine ⟨m, _, rfl, dg (hS2 _ _ m1) rfl, ?_⟩
    walk_at "rd"
    refine ⟨m, _, rfl, dg (hS2 _ _ m1) rfl, ?_⟩
    walk_at "rd"
    refine ⟨m, _, rfl, dg (hS2 _ _ m1) rfl, ?_⟩
    walk_at "rd"
    refine ⟨by show 5 ≤ sizeLine; decide, fun p3 hp3 => ?_⟩
    have hS3 := same_new hS2 hp3 (o := .lst [.ref ja, .ref t, .int c.sg, stV c.st, .bl c.out])
    have hq3 : (upd H2 p3 (.lst [.ref ja, .ref t, .int c.sg, stV c.st, .bl c.out])) p3 = some (.lst [.ref ja, .ref t, .int c.sg, stV c.st, .bl c.out]) := upd_same
    have hq2' := same_upd hp3 (o := .lst [.ref ja, .ref t, .int c.sg, stV c.st, .bl c.out]) _ _ hq2
    have ht3 := same_upd hp3 (o := .lst [.ref ja, .ref t, .int c.sg, stV c.st, .bl c.out]) _ _ ht2
    generalize upd H2 p3 (.lst [.ref ja, .ref t, .int c.sg, stV c.st, .bl c.out]) = H3 at hS3 hq3 hq2' ht3
    walk_at "rd"
    refine ⟨.ref p1, .ref p3, .list [imD c.im, peD c.pe, .int c.sg, stD c.st, .bool c.out], rfl, .lst (lst_of hq2') (.cons (dp_mono hS3 _ _ hi) (.cons (dp_mono hS3 _ _ hp) (.cons (.int _) (.cons (dp_st _ _) (.cons (.bl _) .nil))))), .lst (lst_of hq3) (.cons (dp_mono hS3 _ _ m2) (.cons (.tup (tup_of ht3) (dpAll_mono hS3 _ _ m4)) (.cons (.int _) (.cons (dp_st _ _) (.cons (.bl _) .nil))))), fine_lst (by show 5 ≤ 100000; decide) (all5 (fine_im h0.l200 h0.bk) (fine_pe h0) (fine_int _ _) (fine_st _ _) (fine_bool _ _)), fun H' hS => ?_⟩
    exact q H' (hS3.trans hS)
theorem chI_zero (im : List (List Nat)) (pe : List (Nat × List Nat)) (n : Nat) : chI im pe (List.replicate n 0) = im := by
  refine List.ext_getElem? fun i => ?_
  unfold chI
  rw [List.getElem?_map]
  by_cases hi : i < im.length
  · rw [List.getElem?_range hi, List.getElem?_eq_getElem hi]
    have : (List.replicate n 0).getD i 0 = 0 := by
      rw [List.getD_eq_getElem?_getD, List.getElem?_replicate]
      by_cases z : i < n
      · rw [if_pos z]; rfl
      · rw [if_neg z]; rfl
    show some ((newL im pe i).getD ((List.replicate n 0).getD i 0) []) = _
    rw [this]
    show some (im.getD i []) = _
    rw [List.getD_eq_getElem?_getD, List.getElem?_eq_getElem hi]
    rfl
  · rw [List.getElem?_eq_none (by rw [List.length_range]; omega), List.getElem?_eq_none (by omega)]
    rfl
theorem chI_bk {c : Cf} (h : Cok c) {cs : List Nat} (hn : ∀ (i n : Nat), cs[i]? = some n → n < (newL c.im c.pe i).length) (hl : cs.length = c.im.length) : Blk c.sg (chI c.im c.pe cs) := fun l hm => by
  obtain ⟨i, hi, rfl⟩ := List.mem_map.mp hm
  have hi' := List.mem_range.mp hi
  have hc : cs[i]? = some cs[i] := List.getElem?_eq_getElem (by omega)
  have hb := hn i _ hc
  have e : (newL c.im c.pe i).getD (cs.getD i 0) [] = (newL c.im c.pe i)[cs[i]] := by
    rw [List.getD_eq_getElem?_getD (l := cs), hc]
    show (newL c.im c.pe i).getD cs[i] [] = _
    rw [List.getD_eq_getElem?_getD, List.getElem?_eq_getElem hb]
    rfl
  rw [e]
  exact newL_bk h hi' _ (List.getElem_mem hb)
theorem tv_off {H : Hp} {s g q : Addr} {ls : List (List Nat)} (hs : SprAt H s g) (hq : H q = some (.lst (tv ls))) (h : ls ≠ []) : q ≠ s ∧ q ≠ g := by
  obtain ⟨gr, m, c, h1, h2, _⟩ := hs
  cases ls with
  | nil => exact absurd rfl h
  | cons l r =>
    refine ⟨fun z => ?_, fun z => ?_⟩
    · rw [z, h1] at hq
      injection hq with hq
      injection hq with hq
      injection hq with hq
      cases hq
    · rw [z, h2] at hq
      injection hq with hq
      injection hq with hq
      cases gr with
      | nil => cases hq
      | cons a b =>
        injection hq with hq
        cases hq
theorem tv_kv {H : Hp} {p q : Addr} {ls : List (List Nat)} {cs : List Nat} (hp : H p = some (.lst (kv cs))) (hq : H q = some (.lst (tv ls))) (h : ls ≠ []) : q ≠ p := fun z => by
  rw [z, hp] at hq
  injection hq with hq
  injection hq with hq
  cases ls with
  | nil => exact absurd rfl h
  | cons l r =>
    cases cs with
    | nil => cases hq
    | cons a b =>
      injection hq with hq
      cases hq
def sp_right (C : Addr) (K : PySem.W.Frag) : Sp := fun vs H Q _ => ∃ (s g d m : Addr) (c : Cf), vs = [.ref s, .ref d, .ref m] ∧ SprAt H s g ∧ DiskAt K C H d c ∧ ModAt K [s, g] H m c ∧ ∀ H', SprAt H' s g → Frm s g H H' → Q (.bl true) H'
theorem ok_right (Y : Fx K mg) : FnOk P w K mg base CX0 6 Y.a__law_behind_right Y.fd__law_behind_right ["_law_spring_here", "_law_disk", "_law_model"] (sp_right Y.C_Disk K) := by
  refine Y.F__law_behind_right.ok sc__law_behind_right (fun vs H Q E h => ?_) (fun cdv A outer st H vs Q E hr h => ?_)
  · obtain ⟨s, g, d, m, c, rfl, _⟩ := h
    rfl
  · obtain ⟨s, g, d, m, c, rfl, hSp, hD, hM, q⟩ := h
    refine ⟨_, b__law_behind_right Y (ok_behind Y) (ok__law_alike Y 3) (ok__law_drop Y) (ok_newest Y) hr, ?_⟩
    show t__law_behind_right K Y _ _ _ _ _ [some (.ref s), some (.ref d), some (.ref m), none, none, none, none, none] H
    have h0 := hD.1
    have l4 := h0.l4
    have l200 := h0.l200
    have lpe := h0.pl
    unfold t__law_behind_right
    walk_at "rd"
    refine ⟨Nat.zero_le _, fun pc hpc => ?_⟩
    walk_at "rd"
    refine ⟨Nat.zero_le _, fun pi hpi => ?_⟩
    walk_at "rd"
    have hpc0 := same_upd hpi (o := .lst []) pc _ (upd_same (o := .lst []))
    have hpi0 : (upd (upd H pc (.lst [])) pi (.lst [])) pi = some (.lst []) := upd_same
    have hpip : pi ≠ pc := ne_new (a := pc) (o := .lst []) upd_same hpi
    have hpiH : H pi = none := (same_upd hpc).free hpi
    have hSp0 := (hSp.new hpc (o := .lst [])).new hpi (o := .lst [])
    have hF0 : Frm s g H (upd (upd H pc (.lst [])) pi (.lst [])) := Frm.of (same_new (same_upd hpc) hpi)
    obtain ⟨oc1, oc2⟩ := hSp.off hpc
    obtain ⟨oi1, oi2⟩ := hSp.off hpiH
    generalize upd (upd H pc (.lst [])) pi (.lst []) = H0 at hpc0 hpi0 hSp0 hF0
    obtain ⟨_, ia, pl, us, m1, m2, m3, m4, m5⟩ := id (hM.spr hSp hF0)
    refine ⟨m, _, rfl, dg m1 rfl, ?_⟩
    walk_at "rd"
    refine ln_t (im_sq m2) ?_
    rw [tv_len]
    walk_at "rd"
    refine for1_mk (by omega) (by omega) (fun k σ H' => ∃ (a b : Option V) (cs : List Nat) (ls : List (List Nat)), σ = [some (.ref s), some (.ref d), some (.ref m), some (.ref pc), some (.ref pi), a, b, none] ∧ SprAt H' s g ∧ Frm s g H H' ∧ H' pc = some (.lst (kv cs)) ∧ H' pi = some (.lst (tv ls)) ∧ cs.length = k ∧ ls.length = k ∧ ∀ (i n : Nat), cs[i]? = some n → n < (newL c.im c.pe i).length ∧ ls[i]? = some ((newL c.im c.pe i).getD n [])) ⟨none, none, [], [], rfl, hSp0, hF0, hpc0, hpi0, rfl, rfl, fun i n e => by cases i <;> cases e⟩ (fun k σ H' hk hP => ?_) (fun σ H' hP => ?_)
    · obtain ⟨a, b, cs, ls, rfl, hSp1, hF1, hc, hi, hcl, hll, hcn⟩ := hP
      rw [Int.toNat_natCast] at hk
      have hM1 := hM.spr hSp hF1
      refine s_gn ?_
      dsimp only [List.set]
      walk_at "rd"
      refine ⟨[s, g], m, c, k, rfl, hM1, hk, fun p H2 hS2 hp2 => ?_⟩
      have hc2 := hS2 _ _ hc
      have hi2 := hS2 _ _ hi
      have hSp2 := hSp1.same hS2
      obtain ⟨nl1, nl2⟩ := newL_len (im := c.im) (pe := c.pe) (i := k)
      have hoff := tv_off hSp2 hp2 newL_ne
      walk_at "rd"
      refine x_tyL (lst_of hc2) ?_
      walk_at "rd"
      refine ln_l (lst_of hp2) ?_
      rw [tv_len]
      walk_at "rd"
      refine ⟨s, g, _, rfl, hSp2, by omega, by omega, fun r H3 r0 r1 hSp3 hF3 => ?_⟩
      obtain ⟨rn, rfl⟩ : ∃ rn : Nat, r = rn := ⟨r.toNat, by omega⟩
      have hc3 := hF3 _ _ oc1 oc2 hc2
      have hi3 := hF3 _ _ oi1 oi2 hi2
      have hp3 := hF3 _ _ hoff.1 hoff.2 hp2
      have hpp : p ≠ pc := tv_kv hc3 hp3 newL_ne
      walk_at "rd"
      refine ap_L hc3 (by rw [kv_len]; omega) ?_
      have hF4 : Frm s g H (upd H3 pc (.lst (kv cs ++ [.int rn]))) := ((hF1.trans (Frm.of hS2)).trans hF3).mut hpc
      have hSp4 := hSp3.keep (o := .lst (kv cs ++ [.int rn])) oc1 oc2
      have hc4 : (upd H3 pc (.lst (kv cs ++ [.int rn]))) pc = some (.lst (kv cs ++ [.int rn])) := upd_same
      have hi4 : (upd H3 pc (.lst (kv cs ++ [.int rn]))) pi = some (.lst (tv ls)) := by rw [upd_ne hpip]; exact hi3
      have hp4 : (upd H3 pc (.lst (kv cs ++ [.int rn]))) p = some (.lst (tv (newL c.im c.pe k))) := by rw [upd_ne hpp]; exact hp3
      generalize upd H3 pc (.lst (kv cs ++ [.int rn])) = H4 at hF4 hSp4 hc4 hi4 hp4
      walk_at "rd"
      refine x_tyL (lst_of hi4) ?_
      walk_at "rd"
      refine ix_L (lst_of hc4) (at_last (n := k) (by rw [List.length_append, kv_len, hcl]; rfl) (by rw [List.getElem?_append_right (by rw [kv_len]; omega), kv_len, hcl, Nat.sub_self]; rfl)) ?_
      have hrn : rn < (newL c.im c.pe k).length := by omega
      refine ix_L (lst_of hp4) (at_nat (v := .str (S ((newL c.im c.pe k).getD rn []))) (by omega) ?_) ?_
      · unfold tv
        rw [List.getElem?_map, Int.toNat_natCast, List.getElem?_eq_getElem hrn, List.getD_eq_getElem?_getD, List.getElem?_eq_getElem hrn]
        rfl
      walk_at "rd"
      refine ap_L hi4 (by rw [tv_len]; omega) ?_
      refine ⟨_, _, cs ++ [rn], ls ++ [(newL c.im c.pe k).getD rn []], rfl, hSp4.keep oi1 oi2, hF4.mut hpiH, ?_, ?_, ?_, ?_, fun i n e => ?_⟩
      · rw [upd_ne (Ne.symm hpip), kv_app]
        exact hc4
      · rw [upd_same, tv_app]
        rfl
      · rw [List.length_append, hcl]; rfl
      · rw [List.length_append, hll]; rfl
      · by_cases hik : i < cs.length
        · rw [List.getElem?_append_left hik] at e
          obtain ⟨e1, e2⟩ := hcn i n e
          exact ⟨e1, by rw [List.getElem?_append_left (by omega)]; exact e2⟩
        · rw [List.getElem?_append_right (by omega)] at e
          have hj := (List.getElem?_eq_some_iff.mp e).1
          have hj2 : i - cs.length = 0 := by simp at hj; omega
          rw [hj2] at e
          cases e
          obtain rfl : i = k := by omega
          exact ⟨hrn, by rw [List.getElem?_append_right (by omega), hll, Nat.sub_self]; rfl⟩
    · obtain ⟨a, b, cs, ls, rfl, hSp1, hF1, hc, hi, hcl, hll, hcn⟩ := hP
      rw [Int.toNat_natCast] at hcl hll
      have hD1 := hD.spr hSp hF1
      have hM1 := hM.spr hSp hF1
      have hls : ls = chI c.im c.pe cs := by
        refine List.ext_getElem? fun i => ?_
        unfold chI
        rw [List.getElem?_map]
        by_cases hil : i < c.im.length
        · have hce : cs[i]? = some cs[i] := List.getElem?_eq_getElem (by omega)
          rw [(hcn i _ hce).2, List.getElem?_range hil]
          show _ = some ((newL c.im c.pe i).getD (cs.getD i 0) [])
          rw [List.getD_eq_getElem?_getD (l := cs), hce]
          rfl
        · rw [List.getElem?_eq_none (by omega), List.getElem?_eq_none (by rw [List.length_range]; omega)]
          rfl
      subst hls
      have hcn' : ∀ (i n : Nat), cs[i]? = some n → n < (newL c.im c.pe i).length := fun i n e => (hcn i n e).1
      obtain ⟨_, dx, da, db, d1, _, _⟩ := id hD1
      obtain ⟨_, ia, pl, us, m1, m2, m3, m4, m5⟩ := id hM1
      walk_at "rd"
      refine ⟨d, dx, _, rfl, d1, no_behind, ?_⟩
      walk_at "rd"
      refine tu_L (lst_of hc) fun t ht => ?_
      have hS2 := same_upd ht (o := .tup (kv cs))
      walk_at "rd"
      refine ⟨d, c, t, cs, rfl, hD1.same hS2, tup_of upd_same, hcl, hcn', fun r1 H3 hS3 hr1 => ?_⟩
      have hS13 := hS2.trans hS3
      walk_at "rd"
      refine ⟨d, dx, _, rfl, hS13 _ _ d1, no_behind, ?_⟩
      walk_at "rd"
      refine ⟨by show 1 ≤ sizeLine; decide, fun t2 ht2 => ?_⟩
      have hS4 := same_new hS13 ht2 (o := .tup [.int 0])
      walk_at "rd"
      refine ln_l (lst_of (hS4 _ _ hc)) ?_
      rw [kv_len, hcl]
      refine ⟨t2, _, _, rfl, rfl, tup_of upd_same, (fun z => nomatch z), by omega, by omega, (by show 1 ≤ 1000; decide), fun t3 ht3 => ?_⟩
      rw [Int.toNat_natCast]
      have hz : (List.replicate c.im.length [V.int 0]).flatten = kv (List.replicate c.im.length 0) := by
        unfold kv
        rw [List.map_replicate, List.flatten_replicate_singleton]
        rfl
      rw [hz]
      have hS5 := same_new hS4 ht3 (o := .tup (kv (List.replicate c.im.length 0)))
      have hS35 : Same H3 _ := (same_upd ht2 (o := .tup [.int 0])).trans (same_upd ht3 (o := .tup (kv (List.replicate c.im.length 0))))
      walk_at "rd"
      refine ⟨d, c, t3, List.replicate c.im.length 0, rfl, hD1.same hS5, tup_of upd_same, List.length_replicate, fun i n e => ?_, fun r2 H6 hS6 hr2 => ?_⟩
      · rw [List.getElem?_replicate] at e
        by_cases z : i < c.im.length
        · rw [if_pos z] at e
          cases e
          exact newL_len.1
        · rw [if_neg z] at e
          cases e
      rw [chI_zero] at hr2
      have hr1' := same_sqt (hS35.trans hS6) hr1
      have hS16 := hS5.trans hS6
      walk_at "rd"
      refine ⟨by show 2 ≤ sizeLine; decide, fun p7 hp7 => ?_⟩
      have hS7 := same_new hS16 hp7 (o := .lst [.ref r1, .ref r2])
      have hx7 : (upd H6 p7 (.lst [.ref r1, .ref r2])) p7 = some (.lst [.ref r1, .ref r2]) := upd_same
      have ha7 := same_sqt (same_upd hp7 (o := .lst [.ref r1, .ref r2])) hr1'
      have hb7 := same_sqt (same_upd hp7 (o := .lst [.ref r1, .ref r2])) hr2
      generalize upd H6 p7 (.lst [.ref r1, .ref r2]) = H7 at hS7 hx7 ha7 hb7
      walk_at "rd"
      refine tu_L (lst_of (hS7 _ _ hi)) fun t8 ht8 => ?_
      have hS8 := same_new hS7 ht8 (o := .tup (tv (chI c.im c.pe cs)))
      walk_at "rd"
      refine ⟨m, _, rfl, dg (hS8 _ _ m1) rfl, ?_⟩
      walk_at "rd"
      refine ⟨by show 2 ≤ sizeLine; decide, fun p9 hp9 => ?_⟩
      have hS9 := same_new hS8 hp9 (o := .lst [.ref t8, .ref ia])
      have hS79 := (same_upd ht8 (o := .tup (tv (chI c.im c.pe cs)))).trans (same_upd hp9 (o := .lst [.ref t8, .ref ia]))
      walk_at "rd"
      refine ⟨.ref p7, .ref p9, .list [imD (chI c.im c.pe cs), imD c.im], rfl, .lst (lst_of (hS79 _ _ hx7)) (.cons (sq_im (same_sqt hS79 ha7)) (.cons (sq_im (same_sqt hS79 hb7)) .nil)), .lst (lst_of upd_same) (.cons (sq_im (tup_of (same_upd hp9 _ _ upd_same))) (.cons (dp_mono hS9 _ _ m2) .nil)), fine_lst (by show 2 ≤ 100000; decide) (all2 (fine_im (by unfold chI; rw [List.length_map, List.length_range]; exact l200) (chI_bk h0 hcn' hcl)) (fine_im l200 h0.bk)), fun H' hS => ?_⟩
      exact q H' (hSp1.same (hS9.trans hS)) (hF1.trans (Frm.of (hS9.trans hS)))
end
end My

set_option Elab.async false
set_option linter.all false
set_option maxRecDepth 100000
set_option maxHeartbeats 1000000
namespace My
open PySem PySem.Spec PyProof.Rows L2
local macro_rules | `(tactic| walk_at "len") => `(tactic| first | assumption | omega | decide | (simp only [List.length_append, List.length_take, List.length_drop, List.length_cons, List.length_nil, List.length_replicate]; omega))
local macro_rules | `(tactic| walk_at "side") => `(tactic| first | assumption | exact Nat.zero_le _ | decide | omega)
local macro_rules | `(tactic| walk_at "rd1") => `(tactic| first
  | with_reducible refine s_seq ?_
  | with_reducible refine x_gsub ?_
  | with_reducible refine s_asg ?_
  | ((with_reducible refine s_gn ?_); dsimp only [List.set])
  | ((with_reducible refine x_var (v := ?rdv) ?rdhv ?_); (case rdhv => rfl))
  | with_reducible refine x_c ?_
  | with_reducible refine x_op ?_
  | with_reducible refine x_cons ?_
  | with_reducible refine x_nil ?_
  | with_reducible refine x_cb ?_
  | with_reducible refine x_call ?_
  | with_reducible refine x_callS ?_
  | with_reducible refine x_revT ?_
  | with_reducible refine x_dget ?_
  | with_reducible refine x_makeS ?_
  | with_reducible refine x_make ?_
  | with_reducible refine x_makeKS ?_
  | with_reducible refine x_methS ?_
  | with_reducible refine x_meth ?_
  | with_reducible refine x_methK ?_
  | with_reducible refine x_fld ?_
  | with_reducible refine s_fld ?_
  | with_reducible refine f_rt ?_
  | with_reducible refine f_zm ?_
  | with_reducible refine c_zm ?_
  | with_reducible refine x_din ?_
  | with_reducible refine x_dnotin ?_
  | with_reducible refine s_dput ?_
  | with_reducible refine x_dnew ?_
  | with_reducible refine s_try ?_
  | with_reducible refine s_raise ?_
  | with_reducible refine s_if ?_
  | with_reducible refine s_ret ?_
  | with_reducible refine s_retN ?_
  | with_reducible refine s_next ?_
  | with_reducible refine s_brk ?_
  | with_reducible refine s_cont ?_
  | with_reducible refine s_drop ?_
  | with_reducible refine s_par ?_
  | with_reducible refine s_par3 ?_
  | ((with_reducible refine s_p2 ?_); dsimp only [List.set])
  | ((with_reducible refine s_p3 ?_); dsimp only [List.set])
  | with_reducible refine f_r1 ?_
  | with_reducible refine f_r2 ?_
  | with_reducible refine f_l ?_
  | with_reducible refine f_t ?_
  | with_reducible refine f_s ?_
  | with_reducible refine c_r1 ?_
  | with_reducible refine c_r2 ?_
  | with_reducible refine c_l ?_
  | with_reducible refine c_t ?_
  | with_reducible refine c_s ?_
  | with_reducible refine x_tst ?_
  | with_reducible refine x_tru ?_
  | with_reducible refine x_truB ?_
  | with_reducible refine x_bl2 ?_
  | with_reducible refine x_int ?_
  | with_reducible refine x_str ?_
  | with_reducible refine x_not ?_
  | with_reducible refine x_and ?_
  | with_reducible refine x_or ?_
  | with_reducible refine x_andV ?_
  | with_reducible refine x_orV ?_
  | with_reducible refine x_notV ?_
  | with_reducible refine x_if ?_
  | with_reducible refine x_yes ?_
  | with_reducible refine x_un ?_
  | with_reducible refine x_tup ?_
  | with_reducible refine x_lst ?_
  | with_reducible refine x_callK ?_
  | with_reducible refine x_callK0 ?_
  | with_reducible refine x_bm ?_
  | with_reducible refine x_bm0 ?_
  | with_reducible refine x_tyS ?_
  | with_reducible refine x_sl ?_
  | with_reducible refine x_nopart ?_
  | with_reducible refine x_part ?_
  | with_reducible refine x_fmt0 ?_
  | with_reducible refine x_gc ?_
  | with_reducible refine x_gz ?_
  | with_reducible refine x_ckw ?_
  | with_reducible refine x_fmt ?_
  | with_reducible refine x_chain ?_
  | with_reducible refine a_ii ?_
  | ((with_reducible refine sl_to ?rda ?rdb ?_); (case rda => walk_at "len"); (case rdb => walk_at "len"))
  | ((with_reducible refine sl_from ?rda ?rdb ?_); (case rda => walk_at "len"); (case rdb => walk_at "len"))
  | ((with_reducible refine sl_mid ?rda ?rdb ?rdc ?_); (case rda => walk_at "len"); (case rdb => walk_at "len"); (case rdc => walk_at "len"))
  | ((with_reducible refine a_SS ?rda ?_); (case rda => walk_at "len"))
  | ((with_reducible refine ln_S ?rda ?_); (case rda => walk_at "len"))
  | with_reducible refine e_SS ?_
  | with_reducible refine ne_SS ?_
  | with_reducible refine s_ii ?_
  | ((with_reducible refine md_ii ?rdc ?_); (case rdc => first | decide | assumption | omega))
  | with_reducible refine n_i ?_
  | with_reducible refine e_ii ?_
  | with_reducible refine e_bb ?_
  | with_reducible refine ne_ii ?_
  | with_reducible refine ne_bb ?_
  | with_reducible refine lt_ii ?_
  | with_reducible refine lt_ss ?_
  | with_reducible refine le_ii ?_
  | with_reducible refine le_ss ?_
  | with_reducible refine gt_ii ?_
  | with_reducible refine gt_ss ?_
  | with_reducible refine ge_ii ?_
  | with_reducible refine e_ss ?_
  | with_reducible refine ne_ss ?_
  | with_reducible refine is_N ?_
  | with_reducible refine is_T ?_
  | with_reducible refine is_B ?_
  | with_reducible refine isn_N ?_
  | with_reducible refine isn_T ?_
  | with_reducible refine isn_B ?_
  | with_reducible refine in_s ?_
  | with_reducible refine nin_s ?_
  | with_reducible refine i_i ?_
  | with_reducible refine i_b ?_
  | with_reducible refine ab_i ?_
  | with_reducible refine mx_ii ?_
  | with_reducible refine mn_ii ?_
  | with_reducible refine ty_N ?_
  | with_reducible refine ty_B ?_
  | with_reducible refine ty_I ?_
  | with_reducible refine ty_S ?_
  | with_reducible refine ma_s ?_
  | with_reducible refine mp_s ?_
  | with_reducible refine mdg_s ?_
  | with_reducible refine mal_s ?_
  | with_reducible refine mlo_s ?_
  | with_reducible refine c_er ?_
  | with_reducible refine c_es ?_
  | with_reducible refine mf_s ?_
  | with_reducible refine iteT ?_
  | with_reducible refine iteF ?_
  | with_reducible refine iteNt ?_
  | with_reducible refine iteNf ?_
  | with_reducible refine iteTd (by decide) ?_
  | with_reducible refine iteFd (by decide) ?_
  | with_reducible refine iteNd (by decide) ?_
  | with_reducible refine iteNdF (by decide) ?_
  | ((with_reducible refine iteFd ?rdn ?_); (case rdn => (intro rdz; cases rdz; done)))
  | ((with_reducible refine iteNdF ?rdn ?_); (case rdn => (intro rdz; cases rdz; done))))
local macro_rules | `(tactic| walk_at "rd") => `(tactic| (repeat walk_at "rd1"))
section
variable {P : Program} {w : World} {K : PySem.W.Frag} {mg : Str → Option Value} {base : Heap}
/-! the law's two disks and two models -/
theorem ms_sql {L : List Addr} {H : Hp} {a : Addr} {xs : List V} (hL : ∀ x ∈ L, ∀ o, H x = some o → NoL o) (h : SqL K H a xs) : SqL K (ms L H) a xs := by
  have off : ∀ o, H a = some o → ¬ NoL o → a ∉ L := fun o e z y => z (hL a y o e)
  rcases h with (h | ⟨o, h⟩) | h
  · exact .inl (.inl (ms_at (off _ h fun z => z) h))
  · exact .inl (.inr ⟨o, ms_at (off _ h fun z => z) h⟩)
  · exact .inr h
mutual
theorem ms_dpA {L : List Addr} {H : Hp} (hL : ∀ x ∈ L, ∀ o, H x = some o → NoT o) (hN : ∀ x ∈ L, ∀ o, H x = some o → NoL o) : ∀ (d : PyData) (v : V), Dp K H v d → Dp K (ms L H) v d
  | _, _, .non => .non
  | _, _, .bl b => .bl b
  | _, _, .int i => .int i
  | _, _, .str x => .str x
  | .list ds, _, .lst h a => .lst (ms_sql hN h) (ms_dpAs hL hN ds _ a)
  | .tuple ds, _, .tup h a => .tup (ms_sqt hL h) (ms_dpAs hL hN ds _ a)
theorem ms_dpAs {L : List Addr} {H : Hp} (hL : ∀ x ∈ L, ∀ o, H x = some o → NoT o) (hN : ∀ x ∈ L, ∀ o, H x = some o → NoL o) : ∀ (ds : List PyData) (vs : List V), DpAll K H vs ds → DpAll K (ms L H) vs ds
  | _, _, .nil => .nil
  | d :: ds, v :: vs, .cons h t => .cons (ms_dpA hL hN d v h) (ms_dpAs hL hN ds vs t)
end
theorem fr_dpA {L : List Addr} {H H' : Hp} (hF : Fr L H H') (hL : ∀ x ∈ L, ∀ o, H x = some o → NoT o) (hN : ∀ x ∈ L, ∀ o, H x = some o → NoL o) {d : PyData} {v : V} (h : Dp K H v d) : Dp K H' v d := ms_un (L := L) (dp_mono (ms_mono hF) _ _ (ms_dpA hL hN d v h))
theorem DeedAt.mono {H H' : Hp} {p : Addr} {de : De} {wr : Bool} (h : DeedAt K H p de wr) (hS : Same H H') : DeedAt K H' p de wr := by
  obtain ⟨vi, vb, h1, h2, h3⟩ := h
  exact ⟨vi, vb, same_sqt hS h1, dp_mono hS _ _ h2, dp_mono hS _ _ h3⟩
theorem DeedAt.keep {L : List Addr} {H H' : Hp} {p : Addr} {de : De} {wr : Bool} (h : DeedAt K H p de wr) (hF : Fr L H H') (hL : ∀ x ∈ L, ∀ o, H x = some o → NoT o) (hN : ∀ x ∈ L, ∀ o, H x = some o → NoL o) : DeedAt K H' p de wr := by
  obtain ⟨vi, vb, h1, h2, h3⟩ := h
  exact ⟨vi, vb, fr_sqt hF hL h1, fr_dpA hF hL hN h2, fr_dpA hF hL hN h3⟩
theorem one_T {H : Hp} {m : Addr} {u : HO} (h : H m = some u) (hu : NoT u) : ∀ x ∈ [m], ∀ o, H x = some o → NoT o := fun x hx o e => by
  rw [List.mem_singleton.mp hx, h] at e
  cases e
  exact hu
theorem one_L {H : Hp} {m : Addr} {u : HO} (h : H m = some u) (hu : NoL u) : ∀ x ∈ [m], ∀ o, H x = some o → NoL o := fun x hx o e => by
  rw [List.mem_singleton.mp hx, h] at e
  cases e
  exact hu
theorem ModAt.weak {N M : List Addr} {H : Hp} {m : Addr} {c : Cf} (h : ModAt K N H m c) (hM : ∀ x ∈ M, x ∈ N) : ModAt K M H m c := by
  obtain ⟨h0, ia, pl, us, h1, h2, h3, h4, h5⟩ := h
  exact ⟨h0, ia, pl, us, h1, h2, h3, h4, fun z => h5 (hM _ z)⟩
theorem ModAt.sprN {N : List Addr} {H H' : Hp} {s g m : Addr} {c : Cf} (h : ModAt K N H m c) (hs : SprAt H s g) (hF : Frm s g H H') (hN : ∀ x ∈ [s, g], x ∈ N) : ModAt K N H' m c := by
  refine h.keep (frm_fr hF) (spr_notT hs) (fun x hx => .inl (hN x hx)) fun hm => ?_
  obtain ⟨_, ia, pl, us, h1, _⟩ := h
  obtain ⟨gr, a, b, h3, h4, _⟩ := hs
  rcases List.mem_cons.mp hm with z | z
  · rw [z, h3] at h1; cases h1
  · rw [List.mem_singleton.mp z, h4] at h1; cases h1
abbrev DC := Addr × Cf
def Apart (ds : List DC) : Prop := ∀ (i j : Nat) (x y : DC), ds[i]? = some x → ds[j]? = some y → x.1 = y.1 → i = j
structure DsAt (K : PySem.W.Frag) (C : Addr) (H : Hp) (ds : List DC) : Prop where
  ap : Apart ds
  at_ : ∀ (i : Nat) (x : DC), ds[i]? = some x → DiskAt K C H x.1 x.2
structure MsAt (K : PySem.W.Frag) (N : List Addr) (H : Hp) (mo : List DC) : Prop where
  ap : Apart mo
  at_ : ∀ (i : Nat) (x : DC), mo[i]? = some x → ModAt K N H x.1 x.2
theorem set_get {ds : List DC} {a i : Nat} {z x : DC} {d : Addr} {c : Cf} (ha : ds[a]? = some (d, c)) (h : (ds.set a z)[i]? = some x) : (i = a ∧ x = z) ∨ (i ≠ a ∧ ds[i]? = some x) := by
  by_cases e : a = i
  · subst e
    rw [List.getElem?_set_self (List.getElem?_eq_some_iff.mp ha).1] at h
    exact .inl ⟨rfl, (Option.some.inj h).symm⟩
  · rw [List.getElem?_set_ne e] at h
    exact .inr ⟨fun z => e z.symm, h⟩
theorem Apart.set {ds : List DC} {a : Nat} {d : Addr} {c c' : Cf} (h : Apart ds) (ha : ds[a]? = some (d, c)) : Apart (ds.set a (d, c')) := fun i j x y hi hj e => by
  rcases set_get ha hi with ⟨a1, a2⟩ | ⟨a1, a2⟩ <;> rcases set_get ha hj with ⟨b1, b2⟩ | ⟨b1, b2⟩
  · rw [a1, b1]
  · subst a2
    exact absurd (h a j _ _ ha b2 e).symm b1
  · subst b2
    exact absurd (h i a _ _ a2 ha e) a1
  · exact h i j x y a2 b2 e
theorem DsAt.set {C : Addr} {H H' : Hp} {ds : List DC} {a : Nat} {d : Addr} {c c' : Cf} (h : DsAt K C H ds) (ha : ds[a]? = some (d, c)) (hF : Fr [d] H H') (hD : DiskAt K C H' d c') : DsAt K C H' (ds.set a (d, c')) := ⟨h.ap.set ha, fun i x hx => by
  rcases set_get ha hx with ⟨a1, a2⟩ | ⟨a1, a2⟩
  · rw [a2]; exact hD
  · obtain ⟨_, dx, ia, pa, h1, _⟩ := h.at_ a _ ha
    exact (h.at_ i x a2).keep hF (one_T h1 True.intro) fun z => a1 (h.ap i a _ _ a2 ha (List.mem_singleton.mp z))⟩
theorem MsAt.set {N : List Addr} {H H' : Hp} {ds : List DC} {a : Nat} {d : Addr} {c c' : Cf} (h : MsAt K N H ds) (ha : ds[a]? = some (d, c)) (hF : Fr [d] H H') (hD : ModAt K N H' d c') : MsAt K N H' (ds.set a (d, c')) := ⟨h.ap.set ha, fun i x hx => by
  rcases set_get ha hx with ⟨a1, a2⟩ | ⟨a1, a2⟩
  · rw [a2]; exact hD
  · obtain ⟨_, ia, pl, us, h1, _⟩ := h.at_ a _ ha
    exact (h.at_ i x a2).keep hF (one_T h1 True.intro) (fun x hx => .inr (one_L h1 True.intro x hx)) fun z => a1 (h.ap i a _ _ a2 ha (List.mem_singleton.mp z))⟩
theorem DsAt.frM {C : Addr} {N : List Addr} {H H' : Hp} {ds : List DC} {m : Addr} {c : Cf} (h : DsAt K C H ds) (hM : ModAt K N H m c) (hF : Fr [m] H H') : DsAt K C H' ds := ⟨h.ap, fun i x hx => by
  obtain ⟨_, ia, pl, us, h1, _⟩ := hM
  obtain ⟨_, dx, ja, pa, h2, _⟩ := id (h.at_ i x hx)
  exact (h.at_ i x hx).keep hF (one_T h1 True.intro) fun z => by rw [List.mem_singleton.mp z, h1] at h2; cases h2⟩
theorem MsAt.frD {C : Addr} {N : List Addr} {H H' : Hp} {mo : List DC} {d : Addr} {c : Cf} (h : MsAt K N H mo) (hD : DiskAt K C H d c) (hF : Fr [d] H H') : MsAt K N H' mo := ⟨h.ap, fun i x hx => by
  obtain ⟨_, dx, ja, pa, h1, _⟩ := hD
  obtain ⟨_, ia, pl, us, h2, _⟩ := id (h.at_ i x hx)
  exact (h.at_ i x hx).keep hF (one_T h1 True.intro) (fun x hx => .inr (one_L h1 True.intro x hx)) fun z => by rw [List.mem_singleton.mp z, h1] at h2; cases h2⟩
theorem DsAt.same {C : Addr} {H H' : Hp} {ds : List DC} (h : DsAt K C H ds) (hS : Same H H') : DsAt K C H' ds := ⟨h.ap, fun i x hx => (h.at_ i x hx).same hS⟩
theorem MsAt.same {N : List Addr} {H H' : Hp} {ds : List DC} (h : MsAt K N H ds) (hS : Same H H') : MsAt K N H' ds := ⟨h.ap, fun i x hx => (h.at_ i x hx).same hS⟩
theorem DsAt.spr {C : Addr} {H H' : Hp} {ds : List DC} {s g : Addr} (h : DsAt K C H ds) (hs : SprAt H s g) (hF : Frm s g H H') : DsAt K C H' ds := ⟨h.ap, fun i x hx => (h.at_ i x hx).spr hs hF⟩
theorem MsAt.spr {N : List Addr} {H H' : Hp} {ds : List DC} {s g : Addr} (h : MsAt K N H ds) (hs : SprAt H s g) (hF : Frm s g H H') (hN : ∀ x ∈ [s, g], x ∈ N) : MsAt K N H' ds := ⟨h.ap, fun i x hx => (h.at_ i x hx).sprN hs hF hN⟩
theorem map_set {ds : List DC} {a : Nat} {d : Addr} {c c' : Cf} (ha : ds[a]? = some (d, c)) : (ds.set a (d, c')).map (fun x => V.ref x.1) = ds.map (fun x => V.ref x.1) := by
  rw [List.map_set]
  refine List.ext_getElem? fun i => ?_
  by_cases e : a = i
  · subst e
    have hl := (List.getElem?_eq_some_iff.mp ha).1
    rw [List.getElem?_set_self (by rw [List.length_map]; exact hl), List.getElem?_map, ha]
    rfl
  · rw [List.getElem?_set_ne e]
theorem due_len (c : Cf) (de : De) : (dueR c de).2.pe.length ≤ c.pe.length + 1 := by
  unfold dueR
  split
  · exact Nat.le_succ _
  split
  · exact Nat.le_succ _
  split
  · exact Nat.le_succ _
  split
  · exact Nat.le_succ _
  split
  · show (stepR c).2.pe.length ≤ _
    rw [stepR_pe]; exact Nat.le_succ _
  split
  · show ((stepR c).2.pe ++ [_]).length ≤ _
    rw [List.length_append, stepR_pe]
    exact Nat.le_refl _
  · exact Nat.zero_le _
theorem due_fine (c : Cf) (h : Cok c) (de : De) : Fine 3 (dueR c de).1 := by
  have he : ∀ e : Er, Fine 3 (erD e) := fun e => fine_tup (by show 1 ≤ 100000; decide) (all1 (fine_str (by cases e <;> decide) _))
  have hn : Fine 3 (.list [.none]) := fine_lst (by decide) (all1 (fine_non _))
  unfold dueR
  split
  · exact he _
  rename_i h1
  split
  · exact he _
  split
  · exact he _
  split
  · rename_i hr
    have hnn : isNumD 0 ((c.im.length : Int) - 1) de.di = true := by
      cases hx : isNumD 0 ((c.im.length : Int) - 1) de.di with
      | true => rfl
      | false => exact absurd ⟨(fun z => by (rw [z] at hr; cases hr)), hx⟩ h1
    obtain ⟨i, hi, hil⟩ := num_nat hnn
    rw [hi]
    exact fine_lst (by show 1 ≤ 100000; decide) (all1 (fine_str (newL_bk h hil _ topL_mem).1 _))
  split
  · exact he _
  split
  · exact hn
  · exact hn
end
end My

set_option Elab.async false
set_option linter.all false
set_option maxRecDepth 100000
set_option maxHeartbeats 1000000
namespace My
open PySem PySem.Spec PyProof.Rows L2
local macro_rules | `(tactic| walk_at "len") => `(tactic| first | assumption | omega | decide | (simp only [List.length_append, List.length_take, List.length_drop, List.length_cons, List.length_nil, List.length_replicate]; omega))
local macro_rules | `(tactic| walk_at "side") => `(tactic| first | assumption | exact Nat.zero_le _ | decide | omega)
local macro_rules | `(tactic| walk_at "rd1") => `(tactic| first
  | with_reducible refine s_seq ?_
  | with_reducible refine x_gsub ?_
  | with_reducible refine s_asg ?_
  | ((with_reducible refine s_gn ?_); dsimp only [List.set])
  | ((with_reducible refine x_var (v := ?rdv) ?rdhv ?_); (case rdhv => rfl))
  | with_reducible refine x_c ?_
  | with_reducible refine x_op ?_
  | with_reducible refine x_cons ?_
  | with_reducible refine x_nil ?_
  | with_reducible refine x_cb ?_
  | with_reducible refine x_call ?_
  | with_reducible refine x_callS ?_
  | with_reducible refine x_revT ?_
  | with_reducible refine x_dget ?_
  | with_reducible refine x_makeS ?_
  | with_reducible refine x_make ?_
  | with_reducible refine x_makeKS ?_
  | with_reducible refine x_methS ?_
  | with_reducible refine x_meth ?_
  | with_reducible refine x_methK ?_
  | with_reducible refine x_fld ?_
  | with_reducible refine s_fld ?_
  | with_reducible refine f_rt ?_
  | with_reducible refine f_zm ?_
  | with_reducible refine c_zm ?_
  | with_reducible refine x_din ?_
  | with_reducible refine x_dnotin ?_
  | with_reducible refine s_dput ?_
  | with_reducible refine x_dnew ?_
  | with_reducible refine s_try ?_
  | with_reducible refine s_raise ?_
  | with_reducible refine s_if ?_
  | with_reducible refine s_ret ?_
  | with_reducible refine s_retN ?_
  | with_reducible refine s_next ?_
  | with_reducible refine s_brk ?_
  | with_reducible refine s_cont ?_
  | with_reducible refine s_drop ?_
  | with_reducible refine s_par ?_
  | with_reducible refine s_par3 ?_
  | ((with_reducible refine s_p2 ?_); dsimp only [List.set])
  | ((with_reducible refine s_p3 ?_); dsimp only [List.set])
  | with_reducible refine f_r1 ?_
  | with_reducible refine f_r2 ?_
  | with_reducible refine f_l ?_
  | with_reducible refine f_t ?_
  | with_reducible refine f_s ?_
  | with_reducible refine c_r1 ?_
  | with_reducible refine c_r2 ?_
  | with_reducible refine c_l ?_
  | with_reducible refine c_t ?_
  | with_reducible refine c_s ?_
  | with_reducible refine x_tst ?_
  | with_reducible refine x_tru ?_
  | with_reducible refine x_truB ?_
  | with_reducible refine x_bl2 ?_
  | with_reducible refine x_int ?_
  | with_reducible refine x_str ?_
  | with_reducible refine x_not ?_
  | with_reducible refine x_and ?_
  | with_reducible refine x_or ?_
  | with_reducible refine x_andV ?_
  | with_reducible refine x_orV ?_
  | with_reducible refine x_notV ?_
  | with_reducible refine x_if ?_
  | with_reducible refine x_yes ?_
  | with_reducible refine x_un ?_
  | with_reducible refine x_tup ?_
  | with_reducible refine x_lst ?_
  | with_reducible refine x_callK ?_
  | with_reducible refine x_callK0 ?_
  | with_reducible refine x_bm ?_
  | with_reducible refine x_bm0 ?_
  | with_reducible refine x_tyS ?_
  | with_reducible refine x_sl ?_
  | with_reducible refine x_nopart ?_
  | with_reducible refine x_part ?_
  | with_reducible refine x_fmt0 ?_
  | with_reducible refine x_gc ?_
  | with_reducible refine x_gz ?_
  | with_reducible refine x_ckw ?_
  | with_reducible refine x_fmt ?_
  | with_reducible refine x_chain ?_
  | with_reducible refine a_ii ?_
  | ((with_reducible refine sl_to ?rda ?rdb ?_); (case rda => walk_at "len"); (case rdb => walk_at "len"))
  | ((with_reducible refine sl_from ?rda ?rdb ?_); (case rda => walk_at "len"); (case rdb => walk_at "len"))
  | ((with_reducible refine sl_mid ?rda ?rdb ?rdc ?_); (case rda => walk_at "len"); (case rdb => walk_at "len"); (case rdc => walk_at "len"))
  | ((with_reducible refine a_SS ?rda ?_); (case rda => walk_at "len"))
  | ((with_reducible refine ln_S ?rda ?_); (case rda => walk_at "len"))
  | with_reducible refine e_SS ?_
  | with_reducible refine ne_SS ?_
  | with_reducible refine s_ii ?_
  | ((with_reducible refine md_ii ?rdc ?_); (case rdc => first | decide | assumption | omega))
  | with_reducible refine n_i ?_
  | with_reducible refine e_ii ?_
  | with_reducible refine e_bb ?_
  | with_reducible refine ne_ii ?_
  | with_reducible refine ne_bb ?_
  | with_reducible refine lt_ii ?_
  | with_reducible refine lt_ss ?_
  | with_reducible refine le_ii ?_
  | with_reducible refine le_ss ?_
  | with_reducible refine gt_ii ?_
  | with_reducible refine gt_ss ?_
  | with_reducible refine ge_ii ?_
  | with_reducible refine e_ss ?_
  | with_reducible refine ne_ss ?_
  | with_reducible refine is_N ?_
  | with_reducible refine is_T ?_
  | with_reducible refine is_B ?_
  | with_reducible refine isn_N ?_
  | with_reducible refine isn_T ?_
  | with_reducible refine isn_B ?_
  | with_reducible refine in_s ?_
  | with_reducible refine nin_s ?_
  | with_reducible refine i_i ?_
  | with_reducible refine i_b ?_
  | with_reducible refine ab_i ?_
  | with_reducible refine mx_ii ?_
  | with_reducible refine mn_ii ?_
  | with_reducible refine ty_N ?_
  | with_reducible refine ty_B ?_
  | with_reducible refine ty_I ?_
  | with_reducible refine ty_S ?_
  | with_reducible refine ma_s ?_
  | with_reducible refine mp_s ?_
  | with_reducible refine mdg_s ?_
  | with_reducible refine mal_s ?_
  | with_reducible refine mlo_s ?_
  | with_reducible refine c_er ?_
  | with_reducible refine c_es ?_
  | with_reducible refine mf_s ?_
  | with_reducible refine iteT ?_
  | with_reducible refine iteF ?_
  | with_reducible refine iteNt ?_
  | with_reducible refine iteNf ?_
  | with_reducible refine iteTd (by decide) ?_
  | with_reducible refine iteFd (by decide) ?_
  | with_reducible refine iteNd (by decide) ?_
  | with_reducible refine iteNdF (by decide) ?_
  | ((with_reducible refine iteFd ?rdn ?_); (case rdn => (intro rdz; cases rdz; done)))
  | ((with_reducible refine iteNdF ?rdn ?_); (case rdn => (intro rdz; cases rdz; done))))
local macro_rules | `(tactic| walk_at "rd") => `(tactic| (repeat walk_at "rd1"))
section
variable {P : Program} {w : World} {K : PySem.W.Frag} {mg : Str → Option Value} {base : Heap}
structure LawAt (K : PySem.W.Frag) (C : Addr) (H : Hp) (s g D5 D6 : Addr) (ds mo : List DC) (cs : List Cf) : Prop where
  spr : SprAt H s g
  h5 : H D5 = some (.lst (ds.map fun x => V.ref x.1))
  h6 : H D6 = some (.lst (mo.map fun x => V.ref x.1))
  dsA : DsAt K C H ds
  msA : MsAt K [s, g, D5, D6] H mo
  o5 : D5 ≠ s ∧ D5 ≠ g
  o6 : D6 ≠ s ∧ D6 ≠ g
  ne : D6 ≠ D5
  e5 : ds.map (·.2) = cs
  e6 : mo.map (·.2) = cs
theorem sgN {s g D5 D6 : Addr} : ∀ x ∈ [s, g], x ∈ [s, g, D5, D6] := fun x hx => by
  rcases List.mem_cons.mp hx with z | z
  · rw [z]; exact List.mem_cons_self
  · rw [List.mem_singleton.mp z]; exact List.mem_cons_of_mem _ List.mem_cons_self
theorem LawAt.toSpr {C : Addr} {H H' : Hp} {s g D5 D6 : Addr} {ds mo : List DC} {cs : List Cf} (L : LawAt K C H s g D5 D6 ds mo cs) (hs : SprAt H' s g) (hF : Frm s g H H') : LawAt K C H' s g D5 D6 ds mo cs :=
  ⟨hs, hF _ _ L.o5.1 L.o5.2 L.h5, hF _ _ L.o6.1 L.o6.2 L.h6, L.dsA.spr L.spr hF, L.msA.spr L.spr hF sgN, L.o5, L.o6, L.ne, L.e5, L.e6⟩
theorem LawAt.same {C : Addr} {H H' : Hp} {s g D5 D6 : Addr} {ds mo : List DC} {cs : List Cf} (L : LawAt K C H s g D5 D6 ds mo cs) (hS : Same H H') : LawAt K C H' s g D5 D6 ds mo cs :=
  ⟨L.spr.same hS, hS _ _ L.h5, hS _ _ L.h6, L.dsA.same hS, L.msA.same hS, L.o5, L.o6, L.ne, L.e5, L.e6⟩
theorem LawAt.full {C : Addr} {H : Hp} {s g D5 D6 : Addr} {ds mo : List DC} {cs : List Cf} (L : LawAt K C H s g D5 D6 ds mo cs) : ∀ x ∈ [s, g, D5, D6], H x ≠ none := fun x hx => by
  obtain ⟨gr, a, b, h1, h2, _⟩ := L.spr
  rcases List.mem_cons.mp hx with z | z
  · rw [z, h1]; exact fun z => nomatch z
  rcases List.mem_cons.mp z with z | z
  · rw [z, h2]; exact fun z => nomatch z
  rcases List.mem_cons.mp z with z | z
  · rw [z, L.h5]; exact fun z => nomatch z
  · rw [List.mem_singleton.mp z, L.h6]; exact fun z => nomatch z
theorem entry {ds : List DC} {cs : List Cf} {i : Nat} (e : ds.map (·.2) = cs) (hi : i < ds.length) : ∃ d c, ds[i]? = some (d, c) ∧ cs[i]? = some c := by
  refine ⟨ds[i].1, ds[i].2, List.getElem?_eq_getElem hi, ?_⟩
  rw [← e, List.getElem?_map, List.getElem?_eq_getElem hi]
  rfl
theorem ref_at {ds : List DC} {i : Nat} {x : DC} (h : ds[i]? = some x) : (ds.map fun x => V.ref x.1)[i]? = some (.ref x.1) := by
  rw [List.getElem?_map, h]
  rfl
theorem merge_md {ia pl : V} {sg : Nat} {st : Option Nat} {out : Bool} : mergeK [] (mdD ia pl sg st out) = mdD ia pl sg st out := by rfl
/-- the first loop's new pair -/
theorem LawAt.add {C : Addr} {H5 H9 : Hp} {s g D5 D6 : Addr} {ds mo : List DC} {cs : List Cf} {x p : Addr} {c : Cf} (L : LawAt K C H5 s g D5 D6 ds mo cs) (hF : Fr [D5, D6] H5 H9) (h5 : H9 D5 = some (.lst ((ds ++ [(x, c)]).map fun x => V.ref x.1))) (h6 : H9 D6 = some (.lst ((mo ++ [(p, c)]).map fun x => V.ref x.1)))
    (hx : ∀ y ∈ ds, y.1 ≠ x) (hp : ∀ y ∈ mo, y.1 ≠ p) (hD : DiskAt K C H5 x c) (hM : ModAt K [s, g, D5, D6] H9 p c) : LawAt K C H9 s g D5 D6 (ds ++ [(x, c)]) (mo ++ [(p, c)]) (cs ++ [c]) := by
  have hLT : ∀ x ∈ [D5, D6], ∀ o, H5 x = some o → NoT o := fun y hy o e => by
    rcases List.mem_cons.mp hy with z | z
    · rw [z, L.h5] at e; cases e; exact True.intro
    · rw [List.mem_singleton.mp z, L.h6] at e; cases e; exact True.intro
  have offL : ∀ {y : Addr} {o : HO}, H5 y = some o → NoL o → y ∉ [D5, D6] := fun {y o} e ho hy => by
    rcases List.mem_cons.mp hy with z | z
    · rw [z, L.h5] at e; cases e; exact ho
    · rw [List.mem_singleton.mp z, L.h6] at e; cases e; exact ho
  have hLN : ∀ x ∈ [D5, D6], x ∈ [s, g, D5, D6] := fun y hy => by
    rcases List.mem_cons.mp hy with z | z
    · rw [z]; exact List.mem_cons_of_mem _ (List.mem_cons_of_mem _ List.mem_cons_self)
    · rw [List.mem_singleton.mp z]; exact List.mem_cons_of_mem _ (List.mem_cons_of_mem _ (List.mem_cons_of_mem _ List.mem_cons_self))
  have hsp : SprAt H9 s g := by
    obtain ⟨gr, m, k, h1, h2, h3⟩ := L.spr
    refine ⟨gr, m, k, hF _ _ (fun hy => ?_) h1, hF _ _ (fun hy => ?_) h2, h3⟩
    · rcases List.mem_cons.mp hy with z | z
      · exact L.o5.1 z.symm
      · exact L.o6.1 (List.mem_singleton.mp z).symm
    · rcases List.mem_cons.mp hy with z | z
      · exact L.o5.2 z.symm
      · exact L.o6.2 (List.mem_singleton.mp z).symm
  have apart : ∀ {xs : List DC} {z : Addr}, Apart xs → (∀ y ∈ xs, y.1 ≠ z) → Apart (xs ++ [(z, c)]) := fun {xs z} ha hz i j y1 y2 e1 e2 e => by
    have key : ∀ {j : Nat} {y : DC}, (xs ++ [(z, c)])[j]? = Option.some y → (j < xs.length ∧ xs[j]? = Option.some y) ∨ (j = xs.length ∧ y = (z, c)) := fun {j y} e => by
      by_cases hj : j < xs.length
      · rw [List.getElem?_append_left hj] at e
        exact .inl ⟨hj, e⟩
      · rw [List.getElem?_append_right (by omega)] at e
        have hj2 := (List.getElem?_eq_some_iff.mp e).1
        have hj3 : j - xs.length = 0 := by simp at hj2; omega
        rw [hj3] at e
        cases e
        exact .inr ⟨by omega, rfl⟩
    rcases key e1 with ⟨a1, a2⟩ | ⟨a1, a2⟩ <;> rcases key e2 with ⟨b1, b2⟩ | ⟨b1, b2⟩
    · exact ha i j _ _ a2 b2 e
    · rw [b2] at e; exact absurd e (hz _ (List.mem_of_getElem? a2))
    · rw [a2] at e; exact absurd e.symm (hz _ (List.mem_of_getElem? b2))
    · omega
  have diskK : ∀ {y : Addr} {c' : Cf}, DiskAt K C H5 y c' → DiskAt K C H9 y c' := fun {y c'} h => by
    obtain ⟨_, dx, ia, pa, h1, _⟩ := id h
    exact h.keep hF hLT (offL h1 True.intro)
  have modK : ∀ {y : Addr} {c' : Cf}, ModAt K [s, g, D5, D6] H5 y c' → ModAt K [s, g, D5, D6] H9 y c' := fun {y c'} h => by
    obtain ⟨_, ia, pl, us, h1, _⟩ := id h
    exact h.keep hF hLT (fun x hx => .inl (hLN x hx)) (offL h1 True.intro)
  refine ⟨hsp, h5, h6, ⟨apart L.dsA.ap hx, fun i y hy => ?_⟩, ⟨apart L.msA.ap hp, fun i y hy => ?_⟩, L.o5, L.o6, L.ne, by rw [List.map_append, L.e5]; rfl, by rw [List.map_append, L.e6]; rfl⟩
  · by_cases hj : i < ds.length
    · rw [List.getElem?_append_left hj] at hy
      exact diskK (L.dsA.at_ i y hy)
    · rw [List.getElem?_append_right (by omega)] at hy
      have hj2 := (List.getElem?_eq_some_iff.mp hy).1
      have hj3 : i - ds.length = 0 := by simp at hj2; omega
      rw [hj3] at hy
      cases hy
      exact diskK hD
  · by_cases hj : i < mo.length
    · rw [List.getElem?_append_left hj] at hy
      exact modK (L.msA.at_ i y hy)
    · rw [List.getElem?_append_right (by omega)] at hy
      have hj2 := (List.getElem?_eq_some_iff.mp hy).1
      have hj3 : i - mo.length = 0 := by simp at hj2; omega
      rw [hj3] at hy
      cases hy
      exact hM
theorem fr_lst {H H' : Hp} {m a : Addr} {u : HO} {xs : List V} (hF : Fr [m] H H') (hm : H m = some u) (hu : NoL u) (h : H a = some (.lst xs)) : H' a = some (.lst xs) := hF _ _ (fun z => by
  rw [List.mem_singleton.mp z, hm] at h
  cases h
  exact hu) h
theorem fr_spr {H H' : Hp} {m s g : Addr} {u : HO} (hF : Fr [m] H H') (hm : H m = some u) (hu : NoL u) (h : SprAt H s g) : SprAt H' s g := by
  obtain ⟨gr, a, b, h1, h2, h3⟩ := h
  exact ⟨gr, a, b, fr_lst hF hm hu h1, fr_lst hF hm hu (xs := gr.map V.int) h2, h3⟩
/-- a deed at the one model and then at the one disk -/
theorem LawAt.deed {C : Addr} {H H1 H2 : Hp} {s g D5 D6 d m : Addr} {ds mo : List DC} {cs : List Cf} {i : Nat} {c c' : Cf} (L : LawAt K C H s g D5 D6 ds mo cs) (e : ds[i]? = some (d, c)) (f : mo[i]? = some (m, c)) (hF1 : Fr [m] H H1) (hM : ModAt K [s, g, D5, D6] H1 m c') (hF2 : Fr [d] H1 H2) (hD : DiskAt K C H2 d c') :
    LawAt K C H2 s g D5 D6 (ds.set i (d, c')) (mo.set i (m, c')) (cs.set i c') := by
  obtain ⟨_, ia, pl, us, m1, _⟩ := id (L.msA.at_ i _ f)
  have D1 : DsAt K C H1 ds := L.dsA.frM (L.msA.at_ i _ f) hF1
  have M1 : MsAt K [s, g, D5, D6] H1 (mo.set i (m, c')) := L.msA.set f hF1 hM
  obtain ⟨_, dx, ja, pa, d1, _⟩ := id (D1.at_ i _ e)
  exact ⟨fr_spr hF2 d1 True.intro (fr_spr hF1 m1 True.intro L.spr), by rw [map_set e]; exact fr_lst hF2 d1 True.intro (fr_lst hF1 m1 True.intro L.h5), by rw [map_set f]; exact fr_lst hF2 d1 True.intro (fr_lst hF1 m1 True.intro L.h6),
    D1.set e hF2 hD, M1.frD (D1.at_ i _ e) hF2, L.o5, L.o6, L.ne, by rw [List.map_set, L.e5], by rw [List.map_set, L.e6]⟩
def spLaw (K : PySem.W.Frag) : Sp := fun vs H Q _ => ∃ (a : Addr) (ns : List Int), vs = [.ref a] ∧ SqL K H a (ns.map V.int) ∧ ns.length ≤ 63 ∧ ∀ H', Q (.bl true) H'
theorem ok_law (Y : Fx K mg) : FnOk P w K mg base CX0 7 Y.a_law Y.fd_law ["_law_script"] (spLaw K) := by
  refine Y.F_law.ok sc_law (fun vs H Q E h => ?_) (fun cdv A outer st0 H vs Q E hr h => ?_)
  · obtain ⟨a, ns, rfl, _⟩ := h
    rfl
  · obtain ⟨a, ns, rfl, hS, hl, q⟩ := h
    refine ⟨_, b_law Y (ok_init Y) (ok__law_alike Y 3) (ok_right Y) (ok_deed Y) (ok__law_drop Y) (ok_due Y) (ok__law_spring Y) (ok_stands Y) (ok__law_text Y) (ok_told Y) hr, ?_⟩
    show t_law K Y _ _ _ _ _ _ _ _ _ _ _ [some (.ref a), none, none, none, none, none, none, none, none, none, none, none, none, none] H
    unfold t_law
    walk_at "rd"
    refine ⟨a, ns, rfl, hS, hl, fun s g H1 _ _ hSp1 _ => ?_⟩
    walk_at "rd"
    refine ⟨s, g, 901, rfl, hSp1, by decide, by decide, fun r1 H2 r10 r11 hSp2 _ => ?_⟩
    walk_at "rd"
    refine ⟨by show 2 ≤ sizeLine; decide, fun p3 hp3 => ?_⟩
    walk_at "rd"
    refine ⟨s, g, 5, rfl, hSp2.new hp3, by decide, by decide, fun r2 H4 _ _ hSp4 hF4 => ?_⟩
    walk_at "rd"
    obtain ⟨o1, o2⟩ := hSp2.off hp3
    refine ix_rng (lo := 100) (hi := 1000) (lst_of (hF4 _ _ o1 o2 upd_same)) (rng_cons (by omega) (by omega) (rng_cons (by omega) (by omega) rng_nil)) (by split <;> decide) (by show _ < ((2 : Nat) : Int); split <;> decide) fun z z0 z1 => ?_
    obtain ⟨sg, rfl⟩ : ∃ sg : Nat, z = sg := ⟨z.toNat, by omega⟩
    walk_at "rd"
    refine ⟨s, g, 9, rfl, hSp4, by decide, by decide, fun r3 H5 r30 r31 hSp5 _ => ?_⟩
    walk_at "rd"
    refine lcR1_mk (by omega) (by omega) (fun D i H' => SprAt H' s g ∧ Frm s g H5 H' ∧ ∃ ls : List (List Nat), H' D = some (.lst (tv ls)) ∧ ls.length = i ∧ Blk 3 ls) (fun D hD => ⟨hSp5.new hD, Frm.of (same_upd hD), [], upd_same, rfl, fun l hl => (by cases hl)⟩) (fun D i H' hD hi hP => ?_) (fun D H' hD hP => ?_)
    · obtain ⟨hSp6, hF6, ls, hk, hll, hb⟩ := hP
      refine ⟨rfl, ?_⟩
      walk_at "rd"
      refine ⟨s, g, 4, rfl, hSp6, by decide, by decide, fun r4 H7 r40 r41 hSp7 hF7 => ?_⟩
      obtain ⟨tn, rfl⟩ : ∃ tn : Nat, r4 = tn := ⟨r4.toNat, by omega⟩
      walk_at "rd"
      refine ⟨s, g, tn, rfl, hSp7, by omega, fun l H8 hl1 hl2 hSp8 hF8 => ?_⟩
      obtain ⟨q1, q2⟩ := hSp5.off hD
      have hk8 := hF8 _ _ q1 q2 (hF7 _ _ q1 q2 hk)
      refine ⟨_, hk8, ?_, hSp8.keep q1 q2, ((hF6.trans hF7).trans hF8).mut hD, ls ++ [l], ?_, ?_, ?_⟩
      · rw [tv_len, hll]
        exact Nat.lt_of_le_of_lt (show i ≤ 200 by omega) (by decide)
      · rw [upd_same, tv_app]; rfl
      · rw [List.length_append, hll]; rfl
      · intro l2 h2
        rcases List.mem_append.mp h2 with h2 | h2
        · exact hb l2 h2
        · rw [List.mem_singleton.mp h2]; exact ⟨hl2, by omega⟩
    obtain ⟨hSp6, _, im, hk, hil, hb⟩ := hP
    have him4 : 4 ≤ im.length := by omega
    have him200 : im.length ≤ 200 := by omega
    clear hil
    walk_at "rd"
    refine tu_L (lst_of hk) fun ia hia => ?_
    have hSp7 := hSp6.new hia (o := .tup (tv im))
    have hi7 : (upd H' ia (.tup (tv im))) ia = some (.tup (tv im)) := upd_same
    generalize upd H' ia (.tup (tv im)) = H7 at hSp7 hi7
    walk_at "rd"
    refine ⟨Nat.zero_le _, fun D5 hD5 => ?_⟩
    walk_at "rd"
    refine ⟨Nat.zero_le _, fun D6 hD6 => ?_⟩
    walk_at "rd"
    have hSp8 := (hSp7.new hD5 (o := .lst [])).new hD6 (o := .lst [])
    have hi8 := same_upd hD6 (o := .lst []) _ _ (same_upd hD5 (o := .lst []) _ _ hi7)
    have h58 : (upd (upd H7 D5 (.lst [])) D6 (.lst [])) D5 = some (.lst []) := same_upd hD6 _ _ upd_same
    have h68 : (upd (upd H7 D5 (.lst [])) D6 (.lst [])) D6 = some (.lst []) := upd_same
    have hne : D6 ≠ D5 := ne_new (a := D5) (o := .lst []) upd_same hD6
    have ho5 := hSp7.off hD5
    have ho6 := (hSp7.new hD5 (o := .lst [])).off hD6
    have L0 : LawAt K Y.C_Disk (upd (upd H7 D5 (.lst [])) D6 (.lst [])) s g D5 D6 [] [] [] :=
      ⟨hSp8, h58, h68, ⟨fun i j x y e => (by cases i <;> cases e), fun i x e => (by cases i <;> cases e)⟩, ⟨fun i j x y e => (by cases i <;> cases e), fun i x e => (by cases i <;> cases e)⟩, ho5, ho6, hne, rfl, rfl⟩
    have hiS8 : SqT K (upd (upd H7 D5 (.lst [])) D6 (.lst [])) ia (tv im) := tup_of hi8
    generalize upd (upd H7 D5 (.lst [])) D6 (.lst []) = H8 at L0 hiS8
    refine for1_mk (by decide) (by decide) (fun k σ H' => ∃ (t1 t2 : Option V) (ds mo : List DC) (cs : List Cf), σ = [some (.ref a), some (.ref s), some (.int sg), some (.ref ia), none, some (.ref D5), some (.ref D6), t1, t2, none, none, none, none, none] ∧ LawAt K Y.C_Disk H' s g D5 D6 ds mo cs ∧ SqT K H' ia (tv im) ∧ ds.length = k ∧ mo.length = k ∧ ∀ c ∈ cs, c.pe = []) ⟨none, none, [], [], [], rfl, L0, hiS8, rfl, rfl, fun c hc => (by cases hc)⟩ (fun k σ H9 hk hP => ?_) (fun σ H9 hP => ?_)
    · obtain ⟨t1, t2, ds, mo, cs, rfl, L, hiS, hdl, hml, hpe⟩ := hP
      refine s_gn ?_
      dsimp only [List.set]
      walk_at "rd"
      refine ⟨s, g, 13, rfl, L.spr, by decide, by decide, fun r1 H10 r10 r11 hSp10 hF10 => ?_⟩
      have L10 := L.toSpr hSp10 hF10
      have hi10 := fr_sqt (frm_fr hF10) (spr_notT L.spr) hiS
      walk_at "rd"
      refine ⟨by show 2 ≤ sizeLine; decide, fun pq hpq => ?_⟩
      have hSq := same_upd hpq (o := .lst [.non, .int r1])
      walk_at "rd"
      refine ⟨s, g, 2, rfl, hSp10.new hpq, by decide, by decide, fun r2 H11 r20 r21 hSp11 hF11 => ?_⟩
      obtain ⟨q1, q2⟩ := hSp10.off hpq
      have L11 := (L10.same hSq).toSpr hSp11 hF11
      have hi11 := fr_sqt (frm_fr hF11) (spr_notT (L10.same hSq).spr) (same_sqt hSq hi10)
      have hst : ∃ st : Option Nat, [V.non, .int r1][r2.toNat]? = some (stV st) := by
        have h01 : r2.toNat = 0 ∨ r2.toNat = 1 := by omega
        rcases h01 with h | h
        · exact ⟨none, by rw [h]; rfl⟩
        · exact ⟨some r1.toNat, by rw [h]; show some (V.int r1) = some (V.int (r1.toNat : Int)); rw [Int.toNat_of_nonneg r10]⟩
      obtain ⟨st, hst⟩ := hst
      refine ix_L (lst_of (hF11 _ _ q1 q2 upd_same)) (at_nat r20 hst) ?_
      clear hSq
      generalize hG : stV st = stv
      walk_at "rd"
      refine x_tyL (lst_of L11.h5) ?_
      walk_at "rd"
      intro x dx hx hdx hne2
      subst hG
      have hSa : Same H11 (upd H11 dx (.own x)) := same_upd hdx
      have hxa : (upd H11 dx (.own x)) x = none := by rw [upd_ne (Ne.symm hne2)]; exact hx
      have hSb := same_new hSa hxa (o := .ins Y.C_Disk dx [])
      refine ⟨x, dx, ia, im, sg, st, rfl, upd_same, same_sqt hSb hi11, him4, him200, by omega, by omega, fun l hl2 => ⟨(hb l hl2).1, by have := (hb l hl2).2; omega⟩, fun H12 hF12 hD12 => ⟨rfl, ?_⟩⟩
      have hS12 : Same H11 H12 := fun b o e => hF12 b o (fun z => by rw [List.mem_singleton.mp z, hx] at e; cases e) (hSb b o e)
      have L12 := L11.same hS12
      have hi12 := same_sqt hS12 hi11
      walk_at "rd"
      refine ap_L L12.h5 (by rw [List.length_map, hdl]; have : k < 2 := hk; omega) ?_
      have hF13 : Fr [D5, D6] H12 (upd H12 D5 (.lst (ds.map (fun x => V.ref x.1) ++ [.ref x]))) := (Fr.refl H12).upd List.mem_cons_self
      have h513 : (upd H12 D5 (.lst (ds.map (fun x => V.ref x.1) ++ [.ref x]))) D5 = some (.lst (ds.map (fun x => V.ref x.1) ++ [.ref x])) := upd_same
      have h613 : (upd H12 D5 (.lst (ds.map (fun x => V.ref x.1) ++ [.ref x]))) D6 = some (.lst (mo.map fun x => V.ref x.1)) := by rw [upd_ne hne]; exact L12.h6
      have hful13 : ∀ y ∈ [s, g, D5, D6], (upd H12 D5 (.lst (ds.map (fun x => V.ref x.1) ++ [.ref x]))) y ≠ none := fun y hy => by
        by_cases z : y = D5
        · rw [z, upd_same]; exact fun z => nomatch z
        · rw [upd_ne z]; exact L12.full y hy
      generalize upd H12 D5 (.lst (ds.map (fun x => V.ref x.1) ++ [.ref x])) = H13 at hF13 h513 h613 hful13
      have hLT : ∀ x ∈ [D5, D6], ∀ o, H12 x = some o → NoT o := fun y hy o e => by
        rcases List.mem_cons.mp hy with z | z
        · rw [z, L12.h5] at e; cases e; exact True.intro
        · rw [List.mem_singleton.mp z, L12.h6] at e; cases e; exact True.intro
      walk_at "rd"
      refine x_tyL (lst_of h613) ?_
      refine x_cons (x_disp fun p hp => ?_)
      refine x_c (x_var rfl (x_c (x_lst (x_nil ⟨Nat.zero_le _, fun q2 hq2 => ?_⟩))))
      refine x_c (x_var rfl (x_c (x_var rfl (x_c (x_c ⟨?_, mdD (.ref ia) (.ref q2) sg st false, rfl, by show 5 ≤ 15; decide, ?_⟩)))))
      · exact same_upd hq2 _ _ upd_same
      rw [merge_md]
      have hS15 : Same H13 (upd (upd (upd H13 p (.dK [])) q2 (.lst [])) p (.dK (mdD (.ref ia) (.ref q2) sg st false))) := same_mut (same_new (same_upd hp) hq2) hp
      have hqp : q2 ≠ p := Ne.symm (ne_of_none (a := p) (o := .dK []) upd_same hq2)
      have hp15 : (upd (upd (upd H13 p (.dK [])) q2 (.lst [])) p (.dK (mdD (.ref ia) (.ref q2) sg st false))) p = some (.dK (mdD (.ref ia) (.ref q2) sg st false)) := upd_same
      have hq15 : (upd (upd (upd H13 p (.dK [])) q2 (.lst [])) p (.dK (mdD (.ref ia) (.ref q2) sg st false))) q2 = some (.lst []) := by rw [upd_ne hqp, upd_same]
      have hq13 : H13 q2 = none := (same_upd hp).free hq2
      generalize upd (upd (upd H13 p (.dK [])) q2 (.lst [])) p (.dK (mdD (.ref ia) (.ref q2) sg st false)) = H15 at hS15 hp15 hq15
      walk_at "rd"
      refine ap_L (hS15 _ _ h613) (by rw [List.length_map, hml]; have : k < 2 := hk; omega) ?_
      have hF15 : Fr [D5, D6] H12 H15 := hF13.trans (Fr.of hS15)
      have hF16 : Fr [D5, D6] H12 (upd H15 D6 (.lst (mo.map (fun x => V.ref x.1) ++ [.ref p]))) := hF15.upd (List.mem_cons_of_mem _ (List.mem_singleton_self D6))
      have hi15 : SqT K H15 ia (tv im) := fr_sqt hF15 hLT hi12
      have hMp : ModAt K [s, g, D5, D6] H15 p ⟨im, [], sg, st, false⟩ := ⟨hD12.1, ia, q2, [], hp15, sq_im hi15, hq15, .nil, fun z => hful13 _ z hq13⟩
      have hD6p : H15 D6 = some (.lst (mo.map fun x => V.ref x.1)) := hS15 _ _ h613
      have hMp2 : ModAt K [s, g, D5, D6] (upd H15 D6 (.lst (mo.map (fun x => V.ref x.1) ++ [.ref p]))) p ⟨im, [], sg, st, false⟩ :=
        hMp.keep (L := [D6]) ((Fr.refl H15).upd (List.mem_singleton_self D6)) (one_T hD6p True.intro) (fun x hx => .inl (by rw [List.mem_singleton.mp hx]; exact List.mem_cons_of_mem _ (List.mem_cons_of_mem _ (List.mem_cons_of_mem _ List.mem_cons_self)))) (fun z => by rw [List.mem_singleton.mp z, hD6p] at hp15; cases hp15)
      refine ⟨_, _, ds ++ [(x, ⟨im, [], sg, st, false⟩)], mo ++ [(p, ⟨im, [], sg, st, false⟩)], cs ++ [⟨im, [], sg, st, false⟩], rfl, L12.add hF16 ?_ ?_ (fun y hy z => ?_) (fun y hy z => ?_) hD12 hMp2, fr_sqt hF16 hLT hi12, ?_, ?_, fun c hc => ?_⟩
      · rw [upd_ne (Ne.symm hne), hS15 _ _ h513, List.map_append]
        rfl
      · rw [upd_same, List.map_append]
        rfl
      · obtain ⟨i, hi⟩ := List.getElem?_of_mem hy
        obtain ⟨_, dx2, ja, pa, h1, _⟩ := L11.dsA.at_ i y hi
        rw [z, hx] at h1
        cases h1
      · obtain ⟨i, hi⟩ := List.getElem?_of_mem hy
        obtain ⟨_, ja, pl, us, h1, _⟩ := L12.msA.at_ i y hi
        have h2 : H13 y.1 = _ := hF13 _ _ (fun w => by
          rcases List.mem_cons.mp w with w | w
          · rw [w, L12.h5] at h1; cases h1
          · rw [List.mem_singleton.mp w, L12.h6] at h1; cases h1) h1
        rw [z, hp] at h2
        cases h2
      · rw [List.length_append, hdl]; rfl
      · rw [List.length_append, hml]; rfl
      · rcases List.mem_append.mp hc with h | h
        · exact hpe c h
        · rw [List.mem_singleton.mp h]
    obtain ⟨t1, t2, ds, mo, cs, rfl, L, hiS, hdl, hml, hpe⟩ := hP
    have hdl2 : ds.length = 2 := hdl
    have hml2 : mo.length = 2 := hml
    clear hdl hml hiS L0 hiS8
    walk_at "rd"
    refine ⟨s, g, 35, rfl, L.spr, by decide, by decide, fun r5 H10 r50 r51 hSp10 hF10 => ?_⟩
    have L10 := L.toSpr hSp10 hF10
    walk_at "rd"
    refine for1_mk (by omega) (by omega) (fun k σ H' => ∃ (x7 x8 x9 x10 x11 x12 x13 : Option V) (ds mo : List DC) (cs : List Cf), σ = [some (.ref a), some (.ref s), some (.int sg), some (.ref ia), none, some (.ref D5), some (.ref D6), x7, x8, x9, x10, x11, x12, x13] ∧ LawAt K Y.C_Disk H' s g D5 D6 ds mo cs ∧ ds.length = 2 ∧ mo.length = 2 ∧ ∀ c ∈ cs, c.pe.length ≤ k) ⟨_, _, _, _, _, _, _, ds, mo, cs, rfl, L10, hdl2, hml2, fun c hc => by rw [hpe c hc]; exact Nat.zero_le _⟩ (fun k σ H' hk hP => ?_) (fun σ H' hP => ?_)
    · obtain ⟨x7, x8, x9, x10, x11, x12, x13, ds, mo, cs, rfl, L, hdl2, hml2, hpe⟩ := hP
      refine s_gn ?_
      dsimp only [List.set]
      walk_at "rd"
      refine ⟨s, g, 2, rfl, L.spr, by decide, by decide, fun r H11 r0 r1 hSp11 hF11 => ?_⟩
      have L11 := L.toSpr hSp11 hF11
      obtain ⟨d, c, e0, ec⟩ := entry L11.e5 (i := r.toNat) (by omega)
      obtain ⟨m, c', f0, fc⟩ := entry L11.e6 (i := r.toNat) (by omega)
      rw [ec] at fc
      cases fc
      have hroom : c.pe.length < 1000 := by
        have := hpe c (List.mem_of_getElem? ec)
        omega
      walk_at "rd"
      refine ix_L (lst_of L11.h6) (at_nat r0 (ref_at f0)) ?_
      walk_at "rd"
      refine ⟨s, g, m, c, rfl, L11.spr, (L11.msA.at_ _ _ f0).weak sgN, hroom, fun p H12 de wr hSp12 hF12 hde hok => ?_⟩
      have L12 := L11.toSpr hSp12 hF12
      have hde12 : DeedAt K H12 p de wr := hde.mono ms_le
      obtain ⟨h0, dx, ia2, pa2, d1, d2, d3⟩ := id (L12.dsA.at_ _ _ e0)
      obtain ⟨_, ja2, pl2, us2, m1, m2, m3, m4, m5⟩ := id (L12.msA.at_ _ _ f0)
      walk_at "rd"
      refine ix_L (lst_of L12.h5) (at_nat r0 (ref_at e0)) ?_
      refine ⟨d, _, dx, _, _, rfl, d1, Y.c_Disk, Y.n_Disk_image, lk_im, ?_⟩
      walk_at "rd"
      refine ix_L (lst_of L12.h5) (at_nat r0 (ref_at e0)) ?_
      refine ⟨d, _, dx, _, _, rfl, d1, Y.c_Disk, Y.n_Disk_pending, lk_pe, ?_⟩
      walk_at "rd"
      refine ⟨by show 2 ≤ sizeLine; decide, fun p1 hp1 => ?_⟩
      have hS13 := same_upd hp1 (o := .lst [.ref ia2, .ref pa2])
      have hx13 : (upd H12 p1 (.lst [.ref ia2, .ref pa2])) p1 = some (.lst [.ref ia2, .ref pa2]) := upd_same
      generalize upd H12 p1 (.lst [.ref ia2, .ref pa2]) = H13 at hS13 hx13
      walk_at "rd"
      refine ix_L (lst_of (hS13 _ _ L12.h6)) (at_nat r0 (ref_at f0)) ?_
      walk_at "rd"
      refine ⟨m, _, rfl, dg (hS13 _ _ m1) rfl, ?_⟩
      walk_at "rd"
      refine ix_L (lst_of (hS13 _ _ L12.h6)) (at_nat r0 (ref_at f0)) ?_
      walk_at "rd"
      refine ⟨m, _, rfl, dg (hS13 _ _ m1) rfl, ?_⟩
      walk_at "rd"
      refine tu_L (lst_of (hS13 _ _ m3)) fun t ht => ?_
      have hS14 := same_new hS13 ht (o := .tup us2)
      have hx14 := same_upd ht (o := .tup us2) _ _ hx13
      have ht14 : (upd H13 t (.tup us2)) t = some (.tup us2) := upd_same
      generalize upd H13 t (.tup us2) = H14 at hS14 hx14 ht14
      walk_at "rd"
      refine ⟨by show 2 ≤ sizeLine; decide, fun p2 hp2 => ?_⟩
      have hS15 := same_new hS14 hp2 (o := .lst [.ref ja2, .ref t])
      have hS45 := same_upd hp2 (o := .lst [.ref ja2, .ref t])
      have hy15 : (upd H14 p2 (.lst [.ref ja2, .ref t])) p2 = some (.lst [.ref ja2, .ref t]) := upd_same
      generalize upd H14 p2 (.lst [.ref ja2, .ref t]) = H15 at hS15 hS45 hy15
      have A15 : Dp K H15 (.ref p1) (.list [imD c.im, peD c.pe]) := .lst (lst_of (hS45 _ _ hx14)) (.cons (dp_mono hS15 _ _ d2) (.cons (dp_mono hS15 _ _ d3) .nil))
      have B15 : Dp K H15 (.ref p2) (.list [imD c.im, peD c.pe]) := .lst (lst_of hy15) (.cons (dp_mono hS15 _ _ m2) (.cons (.tup (tup_of (hS45 _ _ ht14)) (dpAll_mono hS15 _ _ m4)) .nil))
      have L15 := L12.same hS15
      have hde15 := hde12.mono hS15
      have m15 := hS15 _ _ m1
      walk_at "rd"
      refine ix_L (lst_of L15.h6) (at_nat r0 (ref_at f0)) ?_
      walk_at "rd"
      refine ⟨[s, g, D5, D6], m, c, p, de, wr, rfl, L15.msA.at_ _ _ f0, hde15, hok, L15.full, fun r6 H16 hM16 hF16 hr6 => ?_⟩
      have D16 : DsAt K Y.C_Disk H16 ds := L15.dsA.frM (L15.msA.at_ _ _ f0) hF16
      have hde16 := hde15.keep hF16 (one_T m15 True.intro) (one_L m15 True.intro)
      have A16 := fr_dpA hF16 (one_T m15 True.intro) (one_L m15 True.intro) A15
      have B16 := fr_dpA hF16 (one_T m15 True.intro) (one_L m15 True.intro) B15
      have h516 := fr_lst hF16 m15 True.intro L15.h5
      obtain ⟨_, dx6, ia6, pa6, d16, _, _⟩ := id (D16.at_ _ _ e0)
      walk_at "rd"
      refine ix_L (lst_of h516) (at_nat r0 (ref_at e0)) ?_
      walk_at "rd"
      refine ⟨d, c, p, de, wr, rfl, D16.at_ _ _ e0, hde16, hok, fun r7 H17 hD17 hF17 hr7 => ?_⟩
      have L17 := L15.deed e0 f0 hF16 hM16 hF17 hD17
      walk_at "rd"
      refine ⟨r7, r6, _, rfl, hr7, fr_dpA hF17 (one_T d16 True.intro) (one_L d16 True.intro) hr6, due_fine c h0 de, fun H18 hS18 => ?_⟩
      have A18 := dp_mono hS18 _ _ (fr_dpA hF17 (one_T d16 True.intro) (one_L d16 True.intro) A16)
      have B18 := dp_mono hS18 _ _ (fr_dpA hF17 (one_T d16 True.intro) (one_L d16 True.intro) B16)
      walk_at "rd"
      refine ⟨.ref p1, .ref p2, _, rfl, A18, B18, fine_lst (by show 2 ≤ 100000; decide) (all2 (fine_im h0.l200 h0.bk) (fine_pe h0)), fun H19 hS19 => ?_⟩
      have L19 := L17.same (hS18.trans hS19)
      have hsl : (ds.set r.toNat (d, (dueR c de).2)).length = 2 := by rw [List.length_set]; exact hdl2
      have hml : (mo.set r.toNat (m, (dueR c de).2)).length = 2 := by rw [List.length_set]; exact hml2
      have hpe' : ∀ c2 ∈ cs.set r.toNat (dueR c de).2, c2.pe.length ≤ k + 1 := fun c2 h2 => by
        rcases List.mem_or_eq_of_mem_set h2 with h2 | h2
        · have := hpe c2 h2; omega
        · rw [h2]
          have h3 := due_len c de
          have h4 := hpe c (List.mem_of_getElem? ec)
          omega
      have er : (ds.set r.toNat (d, (dueR c de).2))[r.toNat]? = some (d, (dueR c de).2) := List.getElem?_set_self (by omega)
      have fr : (mo.set r.toNat (m, (dueR c de).2))[r.toNat]? = some (m, (dueR c de).2) := List.getElem?_set_self (by omega)
      generalize ds.set r.toNat (d, (dueR c de).2) = ds2 at L17 L19 hsl er
      generalize mo.set r.toNat (m, (dueR c de).2) = mo2 at L17 L19 hml fr
      generalize cs.set r.toNat (dueR c de).2 = cs2 at L17 L19 hpe'
      obtain ⟨u0, c0, e20, ec0⟩ := entry L19.e5 (i := 0) (by omega)
      obtain ⟨v0, c0', f20, fc0⟩ := entry L19.e6 (i := 0) (by omega)
      obtain ⟨u1, c1, e21, ec1⟩ := entry L19.e5 (i := 1) (by omega)
      obtain ⟨v1, c1', f21, fc1⟩ := entry L19.e6 (i := 1) (by omega)
      rw [ec0] at fc0
      rw [ec1] at fc1
      cases fc0
      cases fc1
      walk_at "rd"
      refine ix_L (lst_of L19.h5) (at_nat (by decide) (ref_at e20)) ?_
      walk_at "rd"
      refine ix_L (lst_of L19.h6) (at_nat (by decide) (ref_at f20)) ?_
      walk_at "rd"
      refine ⟨_, u0, v0, c0, rfl, L19.dsA.at_ _ _ e20, L19.msA.at_ _ _ f20, fun H20 hS20 => ?_⟩
      have L20 := L19.same hS20
      walk_at "rd"
      refine ix_L (lst_of L20.h5) (at_nat (by decide) (ref_at e21)) ?_
      walk_at "rd"
      refine ix_L (lst_of L20.h6) (at_nat (by decide) (ref_at f21)) ?_
      walk_at "rd"
      refine ⟨_, u1, v1, c1, rfl, L20.dsA.at_ _ _ e21, L20.msA.at_ _ _ f21, fun H21 hS21 => ?_⟩
      have L21 := L20.same hS21
      walk_at "rd"
      refine ⟨s, g, 5, rfl, L21.spr, by decide, by decide, fun r8 H22 _ _ hSp22 hF22 => ?_⟩
      have L22 := L21.toSpr hSp22 hF22
      walk_at "rd"
      refine ite2' (fun e => ?_) (fun e => ?_)
      · walk_at "rd"
        refine ix_L (lst_of L22.h5) (at_nat r0 (ref_at er)) ?_
        walk_at "rd"
        refine ix_L (lst_of L22.h6) (at_nat r0 (ref_at fr)) ?_
        walk_at "rd"
        refine ⟨s, g, d, m, _, rfl, L22.spr, L22.dsA.at_ _ _ er, (L22.msA.at_ _ _ fr).weak sgN, fun H23 hSp23 hF23 => ?_⟩
        walk_at "rd"
        exact ⟨_, _, _, _, _, _, _, ds2, mo2, cs2, rfl, L22.toSpr hSp23 hF23, hsl, hml, hpe'⟩
      · walk_at "rd"
        exact ⟨_, _, _, _, _, _, _, ds2, mo2, cs2, rfl, L22, hsl, hml, hpe'⟩
    · obtain ⟨x7, x8, x9, x10, x11, x12, x13, ds, mo, cs, rfl, L, hdl2, hml2, hpe⟩ := hP
      obtain ⟨d0, c0, e0, ec0⟩ := entry L.e5 (i := 0) (by omega)
      obtain ⟨m0, c0', f0, fc0⟩ := entry L.e6 (i := 0) (by omega)
      obtain ⟨d1, c1, e1, ec1⟩ := entry L.e5 (i := 1) (by omega)
      obtain ⟨m1, c1', f1, fc1⟩ := entry L.e6 (i := 1) (by omega)
      rw [ec0] at fc0
      rw [ec1] at fc1
      cases fc0
      cases fc1
      walk_at "rd"
      refine ix_L (lst_of L.h5) (at_nat (by decide) (ref_at e0)) ?_
      walk_at "rd"
      refine ix_L (lst_of L.h6) (at_nat (by decide) (ref_at f0)) ?_
      walk_at "rd"
      refine ⟨s, g, d0, m0, c0, rfl, L.spr, L.dsA.at_ 0 _ e0, (L.msA.at_ 0 _ f0).weak sgN, fun H2 hSp2 hF2 => ?_⟩
      have L2 := L.toSpr hSp2 hF2
      walk_at "rd"
      refine ix_L (lst_of L2.h5) (at_nat (by decide) (ref_at e1)) ?_
      walk_at "rd"
      refine ix_L (lst_of L2.h6) (at_nat (by decide) (ref_at f1)) ?_
      walk_at "rd"
      exact ⟨s, g, d1, m1, c1, rfl, L2.spr, L2.dsA.at_ 1 _ e1, (L2.msA.at_ 1 _ f1).weak sgN, fun H3 _ _ => q H3⟩
end
end My

set_option Elab.async false
set_option linter.all false
set_option maxRecDepth 100000
set_option maxHeartbeats 4000000
namespace My
open PySem PySem.Spec PyProof.Rows L2
theorem rel_kb_Disk_read_0 {vs : List V} {us : List Value} {zs : List V} {ws : List Value} (r1 : Vals vs us) (r2 : Vals zs ws) : Vals (gV_kb_Disk_read_0 vs zs) (g_kb_Disk_read_0 us ws) := by
  cases r1 with
  | nil => exact .nil
  | cons x0 r1 =>
    cases r1 with
    | cons _ _ => exact .nil
    | nil =>
      cases r2 with
      | nil => exact .nil
      | cons y0 r2 =>
        cases r2 with
        | cons _ _ => exact .nil
        | nil =>
          exact (.cons x0 (.cons y0 .nil))

theorem kbm_kb_Disk_read_0 {K : PySem.W.Frag} {f : Addr} {fd : FuncData} (F : Fun K "read" "Disk.read" s_Disk_read f fd) : KBinds K fd ["self", "index"] ["index"] g_kb_Disk_read_0 gV_kb_Disk_read_0 := by
  obtain ⟨oc, od, kV, doc, pm, an, cdv, ct, osl, rfl, lk, hcd⟩ := F.ex
  refine ⟨fun s us ws _ hl => ?_, rel_kb_Disk_read_0⟩
  have hp : ∃ x0 y0, us = [x0] ∧ ws = [y0] := by
    unfold g_kb_Disk_read_0 at hl
    split at hl
    · exact ⟨_, _, rfl, rfl⟩
    · cases hl
  obtain ⟨x0, y0, rfl, rfl⟩ := hp
  exact BindsTo.of_eq rfl
theorem rel_kb_Disk_write_0 {vs : List V} {us : List Value} {zs : List V} {ws : List Value} (r1 : Vals vs us) (r2 : Vals zs ws) : Vals (gV_kb_Disk_write_0 vs zs) (g_kb_Disk_write_0 us ws) := by
  cases r1 with
  | nil => exact .nil
  | cons x0 r1 =>
    cases r1 with
    | cons _ _ => exact .nil
    | nil =>
      cases r2 with
      | nil => exact .nil
      | cons y0 r2 =>
        cases r2 with
        | nil => exact .nil
        | cons y1 r2 =>
          cases r2 with
          | cons _ _ => exact .nil
          | nil =>
            exact (.cons x0 (.cons y1 (.cons y0 .nil)))

theorem kbm_kb_Disk_write_0 {K : PySem.W.Frag} {f : Addr} {fd : FuncData} (F : Fun K "write" "Disk.write" s_Disk_write f fd) : KBinds K fd ["self", "index", "block"] ["block", "index"] g_kb_Disk_write_0 gV_kb_Disk_write_0 := by
  obtain ⟨oc, od, kV, doc, pm, an, cdv, ct, osl, rfl, lk, hcd⟩ := F.ex
  refine ⟨fun s us ws _ hl => ?_, rel_kb_Disk_write_0⟩
  have hp : ∃ x0 y0 y1, us = [x0] ∧ ws = [y0, y1] := by
    unfold g_kb_Disk_write_0 at hl
    split at hl
    · exact ⟨_, _, _, rfl, rfl⟩
    · cases hl
  obtain ⟨x0, y0, y1, rfl, rfl⟩ := hp
  exact BindsTo.of_eq rfl
theorem rel_kb_Disk_behind_0 {vs : List V} {us : List Value} {zs : List V} {ws : List Value} (r1 : Vals vs us) (r2 : Vals zs ws) : Vals (gV_kb_Disk_behind_0 vs zs) (g_kb_Disk_behind_0 us ws) := by
  cases r1 with
  | nil => exact .nil
  | cons x0 r1 =>
    cases r1 with
    | cons _ _ => exact .nil
    | nil =>
      cases r2 with
      | nil => exact .nil
      | cons y0 r2 =>
        cases r2 with
        | cons _ _ => exact .nil
        | nil =>
          exact (.cons x0 (.cons y0 .nil))

theorem kbm_kb_Disk_behind_0 {K : PySem.W.Frag} {f : Addr} {fd : FuncData} (F : Fun K "behind" "Disk.behind" s_Disk_behind f fd) : KBinds K fd ["self", "choice"] ["choice"] g_kb_Disk_behind_0 gV_kb_Disk_behind_0 := by
  obtain ⟨oc, od, kV, doc, pm, an, cdv, ct, osl, rfl, lk, hcd⟩ := F.ex
  refine ⟨fun s us ws _ hl => ?_, rel_kb_Disk_behind_0⟩
  have hp : ∃ x0 y0, us = [x0] ∧ ws = [y0] := by
    unfold g_kb_Disk_behind_0 at hl
    split at hl
    · exact ⟨_, _, rfl, rfl⟩
    · cases hl
  obtain ⟨x0, y0, rfl, rfl⟩ := hp
  exact BindsTo.of_eq rfl
theorem funD_mk1 {K : PySem.W.Frag} {x qual : Str} {st : Stmt} {f T : Addr} {oc kV doc pm cdv ct ocT : Value} {od an odT : Option Addr} {sl slT : Array (Option Value)} {nT : Nat} (l : K.lookup f = some ⟨oc, od, .func (PySem.W.fnOf x qual (defArgs st) (defBody st) (defScope st) (.ref T) kV doc pm an cdv ct), sl⟩)
    (d : K.lookup T = some ⟨ocT, odT, .seq #[.none] nT, slT⟩) (c : PySem.W.codeIn K cdv qual = true) (k : PySem.W.keepIn K (.ref f) = true) : FunD K x qual (defArgs st) (defBody st) (defScope st) [.non] [] f (PySem.W.fnOf x qual (defArgs st) (defBody st) (defScope st) (.ref T) kV doc pm an cdv ct) :=
  ⟨⟨oc, od, .ref T, kV, doc, pm, an, cdv, ct, sl, rfl, l, c, .inr ⟨(fun z => nomatch z), T, _, [.none], nT, rfl, d, rfl, .cons rfl .nil⟩, .inl rfl⟩, k⟩
theorem bindsD {K : PySem.W.Frag} {fd : FuncData} {ps : List Str} (h : ∃ ds, Vals (List.drop 1 [V.non]) ds ∧ Binds K fd ps ds) : Binds K fd ps [] := by
  obtain ⟨ds, v, b⟩ := h
  cases v
  exact b
theorem exm_pair {K : PySem.W.Frag} {R S : Addr} {b : Bool} (h1 : PySem.W.subIn K (.ref S) (.type "BaseException") = some true) (h2 : PySem.W.isClsIn K S = true) (h3 : PySem.W.typeIn K (.ref S) = some (.type "type")) (h4 : PySem.W.subIn K (.ref R) (.ref S) = some b) :
    PySem.W.exmOne K (.ref R) (.ref S) = some b := by
  have e1 : (PySem.W.subIn K (.ref S) (.type "BaseException") == some true) = true := by rw [h1] <;> rfl
  have e2 : ((PySem.W.clsIn K S).isSome && PySem.W.typeIn K (.ref S) == some (.type "type")) = true := by
    have h2' : (PySem.W.clsIn K S).isSome = true := h2
    rw [h2', h3] <;> rfl
  show (if (PySem.W.subIn K (.ref S) (.type "BaseException") == some true) = true then (if ((PySem.W.clsIn K S).isSome && PySem.W.typeIn K (.ref S) == some (.type "type")) = true then PySem.W.subIn K (.ref R) (.ref S) else none) else none) = some b
  rw [if_pos e1, if_pos e2]
  exact h4
theorem kit_pair {K : PySem.W.Frag} {R S : Addr} {b : Bool} (h2 : PySem.W.isClsIn K S = true) (h3 : PySem.W.typeIn K (.ref S) = some (.type "type")) (h4 : PySem.W.subIn K (.ref R) (.ref S) = some b) (h5 : PySem.W.subIn K (.ref R) (.ref R) = some true) :
    PySem.W.kitOne K (.ref R) (.ref S) = some b := by
  have e2 : ((PySem.W.clsIn K S).isSome && PySem.W.typeIn K (.ref S) == some (.type "type")) = true := by
    have h2' : (PySem.W.clsIn K S).isSome = true := h2
    rw [h2', h3] <;> rfl
  have e3 : PySem.W.kitCls K (.ref R) (.ref S) = some b := by
    show (if ((PySem.W.clsIn K S).isSome && PySem.W.typeIn K (.ref S) == some (.type "type")) = true then PySem.W.subIn K (.ref R) (.ref S) else none) = some b
    rw [if_pos e2]
    exact h4
  show (if (Value.ref R == Value.ref S) = true then some true else PySem.W.kitCls K (.ref R) (.ref S)) = some b
  by_cases e : (Value.ref R == Value.ref S) = true
  · rw [if_pos e]
    have e4 : Value.ref R = Value.ref S := beq_iff_eq.mp e
    cases e4
    exact h5.symm.trans h4
  · rw [if_neg e]
    exact e3
def fx_mk {K : PySem.W.Frag} {h : Heap} {mg : Str → Option Value} (X : K.In h) (G : h.Ns mainGlobals mg)
    {C_Disk : Addr} (ac_Disk : PySem.W.nsIn K mainGlobals "Disk" = some (some (.ref C_Disk))) (pg_Disk : PySem.W.plainGet K C_Disk Str.empty = true) (hd_Disk : PySem.W.hasDictIn K C_Disk = true) (po_Disk : PySem.W.plainOver K C_Disk = true) (sa_Disk : PySem.W.findIn K (.ref C_Disk) "__setattr__" = some (some (.builtin "object.__setattr__"))) (mks_Disk : PySem.W.makesIn K C_Disk = true) (kc_Disk : PySem.W.keepIn K (.ref C_Disk) = true) (n0_Disk : PySem.W.findIn K (.ref C_Disk) "image" = some none) (n1_Disk : PySem.W.findIn K (.ref C_Disk) "out" = some none) (n2_Disk : PySem.W.findIn K (.ref C_Disk) "pending" = some none) (n3_Disk : PySem.W.findIn K (.ref C_Disk) "signs" = some none) (n4_Disk : PySem.W.findIn K (.ref C_Disk) "steps" = some none)
    {f0 : Addr} {od0 an0 : Option Addr} {sl0 : Array (Option Value)} {oc0 kV0 dc0 pm0 cd0 ct0 : Value}
    (a0 : PySem.W.nsIn K mainGlobals "is_text" = some (some (.ref f0))) (l0 : K.lookup f0 = some ⟨oc0, od0, .func (PySem.W.fnOf "is_text" "is_text" (defArgs s_is_text) (defBody s_is_text) (defScope s_is_text) .none kV0 dc0 pm0 an0 cd0 ct0), sl0⟩) (c0 : PySem.W.codeIn K cd0 "is_text" = true) (k0 : PySem.W.keepIn K (.ref f0) = true)
    {f1 : Addr} {od1 an1 : Option Addr} {sl1 : Array (Option Value)} {oc1 kV1 dc1 pm1 cd1 ct1 : Value}
    (a1 : PySem.W.nsIn K mainGlobals "is_number" = some (some (.ref f1))) (l1 : K.lookup f1 = some ⟨oc1, od1, .func (PySem.W.fnOf "is_number" "is_number" (defArgs s_is_number) (defBody s_is_number) (defScope s_is_number) .none kV1 dc1 pm1 an1 cd1 ct1), sl1⟩) (c1 : PySem.W.codeIn K cd1 "is_number" = true) (k1 : PySem.W.keepIn K (.ref f1) = true)
    {f2 : Addr} {od2 an2 : Option Addr} {sl2 : Array (Option Value)} {oc2 kV2 dc2 pm2 cd2 ct2 : Value}
    (a2 : PySem.W.nsIn K mainGlobals "is_block" = some (some (.ref f2))) (l2 : K.lookup f2 = some ⟨oc2, od2, .func (PySem.W.fnOf "is_block" "is_block" (defArgs s_is_block) (defBody s_is_block) (defScope s_is_block) .none kV2 dc2 pm2 an2 cd2 ct2), sl2⟩) (c2 : PySem.W.codeIn K cd2 "is_block" = true) (k2 : PySem.W.keepIn K (.ref f2) = true)
    {f3 : Addr} {od3 an3 : Option Addr} {sl3 : Array (Option Value)} {oc3 kV3 dc3 pm3 cd3 ct3 : Value}
    (a3 : PySem.W.nsIn K mainGlobals "check_signs" = some (some (.ref f3))) (l3 : K.lookup f3 = some ⟨oc3, od3, .func (PySem.W.fnOf "check_signs" "check_signs" (defArgs s_check_signs) (defBody s_check_signs) (defScope s_check_signs) .none kV3 dc3 pm3 an3 cd3 ct3), sl3⟩) (c3 : PySem.W.codeIn K cd3 "check_signs" = true) (k3 : PySem.W.keepIn K (.ref f3) = true)
    {f4 : Addr} {od4 an4 : Option Addr} {sl4 : Array (Option Value)} {oc4 kV4 dc4 pm4 cd4 ct4 : Value}
    (a4 : PySem.W.nsIn K mainGlobals "check_image" = some (some (.ref f4))) (l4 : K.lookup f4 = some ⟨oc4, od4, .func (PySem.W.fnOf "check_image" "check_image" (defArgs s_check_image) (defBody s_check_image) (defScope s_check_image) .none kV4 dc4 pm4 an4 cd4 ct4), sl4⟩) (c4 : PySem.W.codeIn K cd4 "check_image" = true) (k4 : PySem.W.keepIn K (.ref f4) = true)
    {f5 : Addr} {od5 an5 : Option Addr} {sl5 : Array (Option Value)} {oc5 kV5 dc5 pm5 cd5 ct5 : Value}
    (a5 : PySem.W.nsIn K mainGlobals "check_index" = some (some (.ref f5))) (l5 : K.lookup f5 = some ⟨oc5, od5, .func (PySem.W.fnOf "check_index" "check_index" (defArgs s_check_index) (defBody s_check_index) (defScope s_check_index) .none kV5 dc5 pm5 an5 cd5 ct5), sl5⟩) (c5 : PySem.W.codeIn K cd5 "check_index" = true) (k5 : PySem.W.keepIn K (.ref f5) = true)
    {f6 : Addr} {od6 an6 : Option Addr} {sl6 : Array (Option Value)} {oc6 kV6 dc6 pm6 cd6 ct6 : Value}
    (a6 : PySem.W.nsIn K mainGlobals "check_block" = some (some (.ref f6))) (l6 : K.lookup f6 = some ⟨oc6, od6, .func (PySem.W.fnOf "check_block" "check_block" (defArgs s_check_block) (defBody s_check_block) (defScope s_check_block) .none kV6 dc6 pm6 an6 cd6 ct6), sl6⟩) (c6 : PySem.W.codeIn K cd6 "check_block" = true) (k6 : PySem.W.keepIn K (.ref f6) = true)
    {f7 : Addr} {od7 an7 : Option Addr} {sl7 : Array (Option Value)} {oc7 kV7 dc7 pm7 cd7 ct7 : Value}
    (a7 : PySem.W.nsIn K mainGlobals "check_from" = some (some (.ref f7))) (l7 : K.lookup f7 = some ⟨oc7, od7, .func (PySem.W.fnOf "check_from" "check_from" (defArgs s_check_from) (defBody s_check_from) (defScope s_check_from) .none kV7 dc7 pm7 an7 cd7 ct7), sl7⟩) (c7 : PySem.W.codeIn K cd7 "check_from" = true) (k7 : PySem.W.keepIn K (.ref f7) = true)
    {f8 : Addr} {od8 an8 : Option Addr} {sl8 : Array (Option Value)} {oc8 kV8 dc8 pm8 cd8 ct8 : Value}
    (a8 : PySem.W.nsIn K mainGlobals "_law_spring" = some (some (.ref f8))) (l8 : K.lookup f8 = some ⟨oc8, od8, .func (PySem.W.fnOf "_law_spring" "_law_spring" (defArgs s__law_spring) (defBody s__law_spring) (defScope s__law_spring) .none kV8 dc8 pm8 an8 cd8 ct8), sl8⟩) (c8 : PySem.W.codeIn K cd8 "_law_spring" = true) (k8 : PySem.W.keepIn K (.ref f8) = true)
    {f9 : Addr} {od9 an9 : Option Addr} {sl9 : Array (Option Value)} {oc9 kV9 dc9 pm9 cd9 ct9 : Value}
    (a9 : PySem.W.nsIn K mainGlobals "_law_drop" = some (some (.ref f9))) (l9 : K.lookup f9 = some ⟨oc9, od9, .func (PySem.W.fnOf "_law_drop" "_law_drop" (defArgs s__law_drop) (defBody s__law_drop) (defScope s__law_drop) .none kV9 dc9 pm9 an9 cd9 ct9), sl9⟩) (c9 : PySem.W.codeIn K cd9 "_law_drop" = true) (k9 : PySem.W.keepIn K (.ref f9) = true)
    {f10 : Addr} {od10 an10 : Option Addr} {sl10 : Array (Option Value)} {oc10 kV10 dc10 pm10 cd10 ct10 : Value}
    (a10 : PySem.W.nsIn K mainGlobals "_law_text" = some (some (.ref f10))) (l10 : K.lookup f10 = some ⟨oc10, od10, .func (PySem.W.fnOf "_law_text" "_law_text" (defArgs s__law_text) (defBody s__law_text) (defScope s__law_text) .none kV10 dc10 pm10 an10 cd10 ct10), sl10⟩) (c10 : PySem.W.codeIn K cd10 "_law_text" = true) (k10 : PySem.W.keepIn K (.ref f10) = true)
    {f11 : Addr} {od11 an11 : Option Addr} {sl11 : Array (Option Value)} {oc11 kV11 dc11 pm11 cd11 ct11 : Value}
    (a11 : PySem.W.nsIn K mainGlobals "_law_kinds" = some (some (.ref f11))) (l11 : K.lookup f11 = some ⟨oc11, od11, .func (PySem.W.fnOf "_law_kinds" "_law_kinds" (defArgs s__law_kinds) (defBody s__law_kinds) (defScope s__law_kinds) .none kV11 dc11 pm11 an11 cd11 ct11), sl11⟩) (c11 : PySem.W.codeIn K cd11 "_law_kinds" = true) (k11 : PySem.W.keepIn K (.ref f11) = true)
    {f12 : Addr} {od12 an12 : Option Addr} {sl12 : Array (Option Value)} {oc12 kV12 dc12 pm12 cd12 ct12 : Value}
    (a12 : PySem.W.nsIn K mainGlobals "_law_alike" = some (some (.ref f12))) (l12 : K.lookup f12 = some ⟨oc12, od12, .func (PySem.W.fnOf "_law_alike" "_law_alike" (defArgs s__law_alike) (defBody s__law_alike) (defScope s__law_alike) .none kV12 dc12 pm12 an12 cd12 ct12), sl12⟩) (c12 : PySem.W.codeIn K cd12 "_law_alike" = true) (k12 : PySem.W.keepIn K (.ref f12) = true)
    {f13 : Addr} {od13 an13 : Option Addr} {sl13 : Array (Option Value)} {oc13 kV13 dc13 pm13 cd13 ct13 : Value}
    (a13 : PySem.W.nsIn K mainGlobals "_law_word" = some (some (.ref f13))) (l13 : K.lookup f13 = some ⟨oc13, od13, .func (PySem.W.fnOf "_law_word" "_law_word" (defArgs s__law_word) (defBody s__law_word) (defScope s__law_word) .none kV13 dc13 pm13 an13 cd13 ct13), sl13⟩) (c13 : PySem.W.codeIn K cd13 "_law_word" = true) (k13 : PySem.W.keepIn K (.ref f13) = true)
    {f14 : Addr} {od14 an14 : Option Addr} {sl14 : Array (Option Value)} {oc14 kV14 dc14 pm14 cd14 ct14 : Value}
    (a14 : PySem.W.nsIn K mainGlobals "_law_told" = some (some (.ref f14))) (l14 : K.lookup f14 = some ⟨oc14, od14, .func (PySem.W.fnOf "_law_told" "_law_told" (defArgs s__law_told) (defBody s__law_told) (defScope s__law_told) .none kV14 dc14 pm14 an14 cd14 ct14), sl14⟩) (c14 : PySem.W.codeIn K cd14 "_law_told" = true) (k14 : PySem.W.keepIn K (.ref f14) = true)
    {f15 : Addr} {od15 an15 : Option Addr} {sl15 : Array (Option Value)} {oc15 kV15 dc15 pm15 cd15 ct15 : Value}
    (a15 : PySem.W.nsIn K mainGlobals "_law_newest" = some (some (.ref f15))) (l15 : K.lookup f15 = some ⟨oc15, od15, .func (PySem.W.fnOf "_law_newest" "_law_newest" (defArgs s__law_newest) (defBody s__law_newest) (defScope s__law_newest) .none kV15 dc15 pm15 an15 cd15 ct15), sl15⟩) (c15 : PySem.W.codeIn K cd15 "_law_newest" = true) (k15 : PySem.W.keepIn K (.ref f15) = true)
    {f16 : Addr} {od16 an16 : Option Addr} {sl16 : Array (Option Value)} {oc16 kV16 dc16 pm16 cd16 ct16 : Value}
    (a16 : PySem.W.nsIn K mainGlobals "_law_due" = some (some (.ref f16))) (l16 : K.lookup f16 = some ⟨oc16, od16, .func (PySem.W.fnOf "_law_due" "_law_due" (defArgs s__law_due) (defBody s__law_due) (defScope s__law_due) .none kV16 dc16 pm16 an16 cd16 ct16), sl16⟩) (c16 : PySem.W.codeIn K cd16 "_law_due" = true) (k16 : PySem.W.keepIn K (.ref f16) = true)
    {f17 : Addr} {od17 an17 : Option Addr} {sl17 : Array (Option Value)} {oc17 kV17 dc17 pm17 cd17 ct17 : Value}
    (a17 : PySem.W.nsIn K mainGlobals "_law_deed" = some (some (.ref f17))) (l17 : K.lookup f17 = some ⟨oc17, od17, .func (PySem.W.fnOf "_law_deed" "_law_deed" (defArgs s__law_deed) (defBody s__law_deed) (defScope s__law_deed) .none kV17 dc17 pm17 an17 cd17 ct17), sl17⟩) (c17 : PySem.W.codeIn K cd17 "_law_deed" = true) (k17 : PySem.W.keepIn K (.ref f17) = true)
    {f18 : Addr} {od18 an18 : Option Addr} {sl18 : Array (Option Value)} {oc18 kV18 dc18 pm18 cd18 ct18 : Value}
    (a18 : PySem.W.nsIn K mainGlobals "_law_stands" = some (some (.ref f18))) (l18 : K.lookup f18 = some ⟨oc18, od18, .func (PySem.W.fnOf "_law_stands" "_law_stands" (defArgs s__law_stands) (defBody s__law_stands) (defScope s__law_stands) .none kV18 dc18 pm18 an18 cd18 ct18), sl18⟩) (c18 : PySem.W.codeIn K cd18 "_law_stands" = true) (k18 : PySem.W.keepIn K (.ref f18) = true)
    {f19 : Addr} {od19 an19 : Option Addr} {sl19 : Array (Option Value)} {oc19 kV19 dc19 pm19 cd19 ct19 : Value}
    (a19 : PySem.W.nsIn K mainGlobals "_law_behind_right" = some (some (.ref f19))) (l19 : K.lookup f19 = some ⟨oc19, od19, .func (PySem.W.fnOf "_law_behind_right" "_law_behind_right" (defArgs s__law_behind_right) (defBody s__law_behind_right) (defScope s__law_behind_right) .none kV19 dc19 pm19 an19 cd19 ct19), sl19⟩) (c19 : PySem.W.codeIn K cd19 "_law_behind_right" = true) (k19 : PySem.W.keepIn K (.ref f19) = true)
    {f20 : Addr} {od20 an20 : Option Addr} {sl20 : Array (Option Value)} {oc20 kV20 dc20 pm20 cd20 ct20 : Value}
    (a20 : PySem.W.nsIn K mainGlobals "law" = some (some (.ref f20))) (l20 : K.lookup f20 = some ⟨oc20, od20, .func (PySem.W.fnOf "law" "law" (defArgs s_law) (defBody s_law) (defScope s_law) .none kV20 dc20 pm20 an20 cd20 ct20), sl20⟩) (c20 : PySem.W.codeIn K cd20 "law" = true) (k20 : PySem.W.keepIn K (.ref f20) = true)
    {f21 : Addr} {od21 an21 : Option Addr} {sl21 : Array (Option Value)} {oc21 kV21 dc21 pm21 cd21 ct21 : Value} {T21 : Addr} {ocT21 : Value} {odT21 : Option Addr} {nT21 : Nat} {slT21 : Array (Option Value)}
    (a21 : PySem.W.findIn K (.ref C_Disk) "__init__" = some (some (.ref f21))) (i21 : PySem.W.isFn K (.ref f21) = true) (l21 : K.lookup f21 = some ⟨oc21, od21, .func (PySem.W.fnOf "__init__" "Disk.__init__" (defArgs s_Disk_init) (defBody s_Disk_init) (defScope s_Disk_init) (.ref T21) kV21 dc21 pm21 an21 cd21 ct21), sl21⟩) (d21 : K.lookup T21 = some ⟨ocT21, odT21, .seq #[.none] nT21, slT21⟩) (c21 : PySem.W.codeIn K cd21 "Disk.__init__" = true) (k21 : PySem.W.keepIn K (.ref f21) = true)
    {f22 : Addr} {od22 an22 : Option Addr} {sl22 : Array (Option Value)} {oc22 kV22 dc22 pm22 cd22 ct22 : Value}
    (a22 : PySem.W.findIn K (.ref C_Disk) "read" = some (some (.ref f22))) (i22 : PySem.W.isFn K (.ref f22) = true) (l22 : K.lookup f22 = some ⟨oc22, od22, .func (PySem.W.fnOf "read" "Disk.read" (defArgs s_Disk_read) (defBody s_Disk_read) (defScope s_Disk_read) .none kV22 dc22 pm22 an22 cd22 ct22), sl22⟩) (c22 : PySem.W.codeIn K cd22 "Disk.read" = true) (k22 : PySem.W.keepIn K (.ref f22) = true)
    {f23 : Addr} {od23 an23 : Option Addr} {sl23 : Array (Option Value)} {oc23 kV23 dc23 pm23 cd23 ct23 : Value}
    (a23 : PySem.W.findIn K (.ref C_Disk) "write" = some (some (.ref f23))) (i23 : PySem.W.isFn K (.ref f23) = true) (l23 : K.lookup f23 = some ⟨oc23, od23, .func (PySem.W.fnOf "write" "Disk.write" (defArgs s_Disk_write) (defBody s_Disk_write) (defScope s_Disk_write) .none kV23 dc23 pm23 an23 cd23 ct23), sl23⟩) (c23 : PySem.W.codeIn K cd23 "Disk.write" = true) (k23 : PySem.W.keepIn K (.ref f23) = true)
    {f24 : Addr} {od24 an24 : Option Addr} {sl24 : Array (Option Value)} {oc24 kV24 dc24 pm24 cd24 ct24 : Value}
    (a24 : PySem.W.findIn K (.ref C_Disk) "flush" = some (some (.ref f24))) (i24 : PySem.W.isFn K (.ref f24) = true) (l24 : K.lookup f24 = some ⟨oc24, od24, .func (PySem.W.fnOf "flush" "Disk.flush" (defArgs s_Disk_flush) (defBody s_Disk_flush) (defScope s_Disk_flush) .none kV24 dc24 pm24 an24 cd24 ct24), sl24⟩) (c24 : PySem.W.codeIn K cd24 "Disk.flush" = true) (k24 : PySem.W.keepIn K (.ref f24) = true)
    {f25 : Addr} {od25 an25 : Option Addr} {sl25 : Array (Option Value)} {oc25 kV25 dc25 pm25 cd25 ct25 : Value}
    (a25 : PySem.W.findIn K (.ref C_Disk) "behind" = some (some (.ref f25))) (i25 : PySem.W.isFn K (.ref f25) = true) (l25 : K.lookup f25 = some ⟨oc25, od25, .func (PySem.W.fnOf "behind" "Disk.behind" (defArgs s_Disk_behind) (defBody s_Disk_behind) (defScope s_Disk_behind) .none kV25 dc25 pm25 an25 cd25 ct25), sl25⟩) (c25 : PySem.W.codeIn K cd25 "Disk.behind" = true) (k25 : PySem.W.keepIn K (.ref f25) = true)
    {f26 : Addr} {od26 an26 : Option Addr} {sl26 : Array (Option Value)} {oc26 kV26 dc26 pm26 cd26 ct26 : Value}
    (a26 : PySem.W.findIn K (.ref C_Disk) "offers" = some (some (.ref f26))) (i26 : PySem.W.isFn K (.ref f26) = true) (l26 : K.lookup f26 = some ⟨oc26, od26, .func (PySem.W.fnOf "offers" "Disk.offers" (defArgs s_Disk_offers) (defBody s_Disk_offers) (defScope s_Disk_offers) .none kV26 dc26 pm26 an26 cd26 ct26), sl26⟩) (c26 : PySem.W.codeIn K cd26 "Disk.offers" = true) (k26 : PySem.W.keepIn K (.ref f26) = true)
    {f27 : Addr} {od27 an27 : Option Addr} {sl27 : Array (Option Value)} {oc27 kV27 dc27 pm27 cd27 ct27 : Value}
    (a27 : PySem.W.findIn K (.ref C_Disk) "need_power" = some (some (.ref f27))) (i27 : PySem.W.isFn K (.ref f27) = true) (l27 : K.lookup f27 = some ⟨oc27, od27, .func (PySem.W.fnOf "need_power" "Disk.need_power" (defArgs s_Disk_need_power) (defBody s_Disk_need_power) (defScope s_Disk_need_power) .none kV27 dc27 pm27 an27 cd27 ct27), sl27⟩) (c27 : PySem.W.codeIn K cd27 "Disk.need_power" = true) (k27 : PySem.W.keepIn K (.ref f27) = true)
    {f28 : Addr} {od28 an28 : Option Addr} {sl28 : Array (Option Value)} {oc28 kV28 dc28 pm28 cd28 ct28 : Value}
    (a28 : PySem.W.findIn K (.ref C_Disk) "take_step" = some (some (.ref f28))) (i28 : PySem.W.isFn K (.ref f28) = true) (l28 : K.lookup f28 = some ⟨oc28, od28, .func (PySem.W.fnOf "take_step" "Disk.take_step" (defArgs s_Disk_take_step) (defBody s_Disk_take_step) (defScope s_Disk_take_step) .none kV28 dc28 pm28 an28 cd28 ct28), sl28⟩) (c28 : PySem.W.codeIn K cd28 "Disk.take_step" = true) (k28 : PySem.W.keepIn K (.ref f28) = true)
    (z0 : PySem.W.nsIn K mainGlobals "all" = some none)
    (z1 : PySem.W.nsIn K mainGlobals "bool" = some none)
    (z2 : PySem.W.nsIn K mainGlobals "int" = some none)
    (z3 : PySem.W.nsIn K mainGlobals "isinstance" = some none)
    (z4 : PySem.W.nsIn K mainGlobals "len" = some none)
    (z5 : PySem.W.nsIn K mainGlobals "list" = some none)
    (z6 : PySem.W.nsIn K mainGlobals "range" = some none)
    (z7 : PySem.W.nsIn K mainGlobals "reversed" = some none)
    (z8 : PySem.W.nsIn K mainGlobals "str" = some none)
    (z9 : PySem.W.nsIn K mainGlobals "tuple" = some none)
    (z10 : PySem.W.nsIn K mainGlobals "type" = some none)
    (z11 : PySem.W.nsIn K mainGlobals "zip" = some none)
    {x_InvalidBlock : Addr} (xa_InvalidBlock : PySem.W.nsIn K mainGlobals "InvalidBlock" = some (some (.ref x_InvalidBlock))) (xe_InvalidBlock : PySem.W.excIn K x_InvalidBlock [.type "ValueError", .type "Exception", .type "BaseException", .type "object"] "ValueError.__new__" = true) (xk_InvalidBlock : PySem.W.keepIn K (.ref x_InvalidBlock) = true) (xs_InvalidBlock : PySem.W.subIn K (.ref x_InvalidBlock) (.type "BaseException") = some true) (xt_InvalidBlock : PySem.W.typeIn K (.ref x_InvalidBlock) = some (.type "type")) (xy_InvalidBlock : PySem.W.subIn K (.ref x_InvalidBlock) (.type "BaseException") = some true) (xi_InvalidBlock : PySem.W.isClsIn K x_InvalidBlock = true) (xz_InvalidBlock : PySem.W.typeIn K (.ref x_InvalidBlock) = some (.type "type"))
    {x_InvalidIndex : Addr} (xa_InvalidIndex : PySem.W.nsIn K mainGlobals "InvalidIndex" = some (some (.ref x_InvalidIndex))) (xe_InvalidIndex : PySem.W.excIn K x_InvalidIndex [.type "ValueError", .type "Exception", .type "BaseException", .type "object"] "ValueError.__new__" = true) (xk_InvalidIndex : PySem.W.keepIn K (.ref x_InvalidIndex) = true) (xs_InvalidIndex : PySem.W.subIn K (.ref x_InvalidIndex) (.type "BaseException") = some true) (xt_InvalidIndex : PySem.W.typeIn K (.ref x_InvalidIndex) = some (.type "type")) (xy_InvalidIndex : PySem.W.subIn K (.ref x_InvalidIndex) (.type "BaseException") = some true) (xi_InvalidIndex : PySem.W.isClsIn K x_InvalidIndex = true) (xz_InvalidIndex : PySem.W.typeIn K (.ref x_InvalidIndex) = some (.type "type"))
    {x_PowerCut : Addr} (xa_PowerCut : PySem.W.nsIn K mainGlobals "PowerCut" = some (some (.ref x_PowerCut))) (xe_PowerCut : PySem.W.excIn K x_PowerCut [.type "ValueError", .type "Exception", .type "BaseException", .type "object"] "ValueError.__new__" = true) (xk_PowerCut : PySem.W.keepIn K (.ref x_PowerCut) = true) (xs_PowerCut : PySem.W.subIn K (.ref x_PowerCut) (.type "BaseException") = some true) (xt_PowerCut : PySem.W.typeIn K (.ref x_PowerCut) = some (.type "type")) (xy_PowerCut : PySem.W.subIn K (.ref x_PowerCut) (.type "BaseException") = some true) (xi_PowerCut : PySem.W.isClsIn K x_PowerCut = true) (xz_PowerCut : PySem.W.typeIn K (.ref x_PowerCut) = some (.type "type"))
    {x_StoreError : Addr} (xa_StoreError : PySem.W.nsIn K mainGlobals "StoreError" = some (some (.ref x_StoreError))) (xy_StoreError : PySem.W.subIn K (.ref x_StoreError) (.type "BaseException") = some true) (xi_StoreError : PySem.W.isClsIn K x_StoreError = true) (xz_StoreError : PySem.W.typeIn K (.ref x_StoreError) = some (.type "type"))
    (xp_InvalidBlock_InvalidBlock : PySem.W.subIn K (.ref x_InvalidBlock) (.ref x_InvalidBlock) = some true)
    (xp_InvalidBlock_InvalidIndex : PySem.W.subIn K (.ref x_InvalidBlock) (.ref x_InvalidIndex) = some false)
    (xp_InvalidBlock_PowerCut : PySem.W.subIn K (.ref x_InvalidBlock) (.ref x_PowerCut) = some false)
    (xp_InvalidBlock_StoreError : PySem.W.subIn K (.ref x_InvalidBlock) (.ref x_StoreError) = some true)
    (xp_InvalidIndex_InvalidBlock : PySem.W.subIn K (.ref x_InvalidIndex) (.ref x_InvalidBlock) = some false)
    (xp_InvalidIndex_InvalidIndex : PySem.W.subIn K (.ref x_InvalidIndex) (.ref x_InvalidIndex) = some true)
    (xp_InvalidIndex_PowerCut : PySem.W.subIn K (.ref x_InvalidIndex) (.ref x_PowerCut) = some false)
    (xp_InvalidIndex_StoreError : PySem.W.subIn K (.ref x_InvalidIndex) (.ref x_StoreError) = some true)
    (xp_PowerCut_InvalidBlock : PySem.W.subIn K (.ref x_PowerCut) (.ref x_InvalidBlock) = some false)
    (xp_PowerCut_InvalidIndex : PySem.W.subIn K (.ref x_PowerCut) (.ref x_InvalidIndex) = some false)
    (xp_PowerCut_PowerCut : PySem.W.subIn K (.ref x_PowerCut) (.ref x_PowerCut) = some true)
    (xp_PowerCut_StoreError : PySem.W.subIn K (.ref x_PowerCut) (.ref x_StoreError) = some true)
    (hn0 : PySem.W.specialIn K (.builtin "object.__class__") "__get__" = some (some (.builtin "getset_descriptor.__get__"))) (ht0 : PySem.W.takesIn K (.builtin "object.__class__") = some true)
    (hg_InvalidBlock : PySem.W.findIn K (.ref x_InvalidBlock) "__getattribute__" = some (some (.builtin "BaseException.__getattribute__"))) (hk_InvalidBlock : PySem.W.findIn K (.ref x_InvalidBlock) "__getattr__" = some none) (hdd_InvalidBlock : PySem.W.hasDictIn K x_InvalidBlock = true) (ha_InvalidBlock : PySem.W.findIn K (.ref x_InvalidBlock) "__class__" = some (some (.builtin "object.__class__"))) (hm_InvalidBlock : PySem.W.mroIn K x_InvalidBlock (.type "object") = some true)
    (hg_InvalidIndex : PySem.W.findIn K (.ref x_InvalidIndex) "__getattribute__" = some (some (.builtin "BaseException.__getattribute__"))) (hk_InvalidIndex : PySem.W.findIn K (.ref x_InvalidIndex) "__getattr__" = some none) (hdd_InvalidIndex : PySem.W.hasDictIn K x_InvalidIndex = true) (ha_InvalidIndex : PySem.W.findIn K (.ref x_InvalidIndex) "__class__" = some (some (.builtin "object.__class__"))) (hm_InvalidIndex : PySem.W.mroIn K x_InvalidIndex (.type "object") = some true)
    (hg_PowerCut : PySem.W.findIn K (.ref x_PowerCut) "__getattribute__" = some (some (.builtin "BaseException.__getattribute__"))) (hk_PowerCut : PySem.W.findIn K (.ref x_PowerCut) "__getattr__" = some none) (hdd_PowerCut : PySem.W.hasDictIn K x_PowerCut = true) (ha_PowerCut : PySem.W.findIn K (.ref x_PowerCut) "__class__" = some (some (.builtin "object.__class__"))) (hm_PowerCut : PySem.W.mroIn K x_PowerCut (.type "object") = some true) : Fx K mg :=
  {C_Disk := C_Disk, c_Disk := ⟨pg_Disk, hd_Disk, po_Disk, sa_Disk⟩, gc_Disk := PySem.W.mg_of X G ac_Disk,
    n_Disk_image := n0_Disk,
    n_Disk_out := n1_Disk,
    n_Disk_pending := n2_Disk,
    n_Disk_signs := n3_Disk,
    n_Disk_steps := n4_Disk,
    a_is_text := f0, fd_is_text := _, F_is_text := fun_mk (st := s_is_text) l0 c0 k0, g_is_text := PySem.W.mg_of X G a0, b_is_text := (fun_mk (st := s_is_text) l0 c0 k0).binds (ps := ["value"]) fun _ _ _ _ _ _ us hl => match us, hl with | [_], _ => rfl,
    a_is_number := f1, fd_is_number := _, F_is_number := fun_mk (st := s_is_number) l1 c1 k1, g_is_number := PySem.W.mg_of X G a1, b_is_number := (fun_mk (st := s_is_number) l1 c1 k1).binds (ps := ["value", "low", "high"]) fun _ _ _ _ _ _ us hl => match us, hl with | [_, _, _], _ => rfl,
    a_is_block := f2, fd_is_block := _, F_is_block := fun_mk (st := s_is_block) l2 c2 k2, g_is_block := PySem.W.mg_of X G a2, b_is_block := (fun_mk (st := s_is_block) l2 c2 k2).binds (ps := ["value", "signs"]) fun _ _ _ _ _ _ us hl => match us, hl with | [_, _], _ => rfl,
    a_check_signs := f3, fd_check_signs := _, F_check_signs := fun_mk (st := s_check_signs) l3 c3 k3, g_check_signs := PySem.W.mg_of X G a3, b_check_signs := (fun_mk (st := s_check_signs) l3 c3 k3).binds (ps := ["signs"]) fun _ _ _ _ _ _ us hl => match us, hl with | [_], _ => rfl,
    a_check_image := f4, fd_check_image := _, F_check_image := fun_mk (st := s_check_image) l4 c4 k4, g_check_image := PySem.W.mg_of X G a4, b_check_image := (fun_mk (st := s_check_image) l4 c4 k4).binds (ps := ["image", "signs"]) fun _ _ _ _ _ _ us hl => match us, hl with | [_, _], _ => rfl,
    a_check_index := f5, fd_check_index := _, F_check_index := fun_mk (st := s_check_index) l5 c5 k5, g_check_index := PySem.W.mg_of X G a5, b_check_index := (fun_mk (st := s_check_index) l5 c5 k5).binds (ps := ["index", "many"]) fun _ _ _ _ _ _ us hl => match us, hl with | [_, _], _ => rfl,
    a_check_block := f6, fd_check_block := _, F_check_block := fun_mk (st := s_check_block) l6 c6 k6, g_check_block := PySem.W.mg_of X G a6, b_check_block := (fun_mk (st := s_check_block) l6 c6 k6).binds (ps := ["block", "signs"]) fun _ _ _ _ _ _ us hl => match us, hl with | [_, _], _ => rfl,
    a_check_from := f7, fd_check_from := _, F_check_from := fun_mk (st := s_check_from) l7 c7 k7, g_check_from := PySem.W.mg_of X G a7, b_check_from := (fun_mk (st := s_check_from) l7 c7 k7).binds (ps := ["value", "low"]) fun _ _ _ _ _ _ us hl => match us, hl with | [_, _], _ => rfl,
    a__law_spring := f8, fd__law_spring := _, F__law_spring := fun_mk (st := s__law_spring) l8 c8 k8, g__law_spring := PySem.W.mg_of X G a8, b__law_spring := (fun_mk (st := s__law_spring) l8 c8 k8).binds (ps := ["_law_script"]) fun _ _ _ _ _ _ us hl => match us, hl with | [_], _ => rfl,
    a__law_drop := f9, fd__law_drop := _, F__law_drop := fun_mk (st := s__law_drop) l9 c9 k9, g__law_drop := PySem.W.mg_of X G a9, b__law_drop := (fun_mk (st := s__law_drop) l9 c9 k9).binds (ps := ["_law_spring_here", "_law_many"]) fun _ _ _ _ _ _ us hl => match us, hl with | [_, _], _ => rfl,
    a__law_text := f10, fd__law_text := _, F__law_text := fun_mk (st := s__law_text) l10 c10 k10, g__law_text := PySem.W.mg_of X G a10, b__law_text := (fun_mk (st := s__law_text) l10 c10 k10).binds (ps := ["_law_spring_here", "_law_size"]) fun _ _ _ _ _ _ us hl => match us, hl with | [_, _], _ => rfl,
    a__law_kinds := f11, fd__law_kinds := _, F__law_kinds := fun_mk (st := s__law_kinds) l11 c11 k11, g__law_kinds := PySem.W.mg_of X G a11, b__law_kinds := (fun_mk (st := s__law_kinds) l11 c11 k11).binds (ps := ["_law_thing"]) fun _ _ _ _ _ _ us hl => match us, hl with | [_], _ => rfl,
    a__law_alike := f12, fd__law_alike := _, F__law_alike := fun_mk (st := s__law_alike) l12 c12 k12, g__law_alike := PySem.W.mg_of X G a12, b__law_alike := (fun_mk (st := s__law_alike) l12 c12 k12).binds (ps := ["_law_found", "_law_due_here"]) fun _ _ _ _ _ _ us hl => match us, hl with | [_, _], _ => rfl,
    a__law_word := f13, fd__law_word := _, F__law_word := fun_mk (st := s__law_word) l13 c13 k13, g__law_word := PySem.W.mg_of X G a13, b__law_word := (fun_mk (st := s__law_word) l13 c13 k13).binds (ps := ["_law_caught"]) fun _ _ _ _ _ _ us hl => match us, hl with | [_], _ => rfl,
    a__law_told := f14, fd__law_told := _, F__law_told := fun_mk (st := s__law_told) l14 c14 k14, g__law_told := PySem.W.mg_of X G a14, b__law_told := (fun_mk (st := s__law_told) l14 c14 k14).binds (ps := ["_law_disk", "_law_deed_here"]) fun _ _ _ _ _ _ us hl => match us, hl with | [_, _], _ => rfl,
    a__law_newest := f15, fd__law_newest := _, F__law_newest := fun_mk (st := s__law_newest) l15 c15 k15, g__law_newest := PySem.W.mg_of X G a15, b__law_newest := (fun_mk (st := s__law_newest) l15 c15 k15).binds (ps := ["_law_model", "_law_index"]) fun _ _ _ _ _ _ us hl => match us, hl with | [_, _], _ => rfl,
    a__law_due := f16, fd__law_due := _, F__law_due := fun_mk (st := s__law_due) l16 c16 k16, g__law_due := PySem.W.mg_of X G a16, b__law_due := (fun_mk (st := s__law_due) l16 c16 k16).binds (ps := ["_law_model", "_law_deed_here"]) fun _ _ _ _ _ _ us hl => match us, hl with | [_, _], _ => rfl,
    a__law_deed := f17, fd__law_deed := _, F__law_deed := fun_mk (st := s__law_deed) l17 c17 k17, g__law_deed := PySem.W.mg_of X G a17, b__law_deed := (fun_mk (st := s__law_deed) l17 c17 k17).binds (ps := ["_law_spring_here", "_law_model"]) fun _ _ _ _ _ _ us hl => match us, hl with | [_, _], _ => rfl,
    a__law_stands := f18, fd__law_stands := _, F__law_stands := fun_mk (st := s__law_stands) l18 c18 k18, g__law_stands := PySem.W.mg_of X G a18, b__law_stands := (fun_mk (st := s__law_stands) l18 c18 k18).binds (ps := ["_law_disk", "_law_model"]) fun _ _ _ _ _ _ us hl => match us, hl with | [_, _], _ => rfl,
    a__law_behind_right := f19, fd__law_behind_right := _, F__law_behind_right := fun_mk (st := s__law_behind_right) l19 c19 k19, g__law_behind_right := PySem.W.mg_of X G a19, b__law_behind_right := (fun_mk (st := s__law_behind_right) l19 c19 k19).binds (ps := ["_law_spring_here", "_law_disk", "_law_model"]) fun _ _ _ _ _ _ us hl => match us, hl with | [_, _, _], _ => rfl,
    a_law := f20, fd_law := _, F_law := fun_mk (st := s_law) l20 c20 k20, g_law := PySem.W.mg_of X G a20, b_law := (fun_mk (st := s_law) l20 c20 k20).binds (ps := ["_law_script"]) fun _ _ _ _ _ _ us hl => match us, hl with | [_], _ => rfl,
    a_Disk_init := f21, fd_Disk_init := _, F_Disk_init := funD_mk1 (st := s_Disk_init) l21 d21 c21 k21, b_Disk_init := bindsD ((funD_mk1 (st := s_Disk_init) l21 d21 c21 k21).binds1 (ps := ["self", "image", "signs", "steps"]) 4 1 (fun z => nomatch z) rfl fun _ _ _ _ _ _ _ us its hu hi => match us, hu, its, hi with | [_, _, _, _], _, [_], _ => ⟨_, rfl, rfl⟩),
    mk_Disk := ⟨mks_Disk, a21, i21, kc_Disk⟩,
    a_Disk_read := f22, fd_Disk_read := _, F_Disk_read := fun_mk (st := s_Disk_read) l22 c22 k22, b_Disk_read := (fun_mk (st := s_Disk_read) l22 c22 k22).binds (ps := ["self", "index"]) fun _ _ _ _ _ _ us hl => match us, hl with | [_, _], _ => rfl,
    mm_Disk_read := ⟨a22, i22, k22⟩,
    a_Disk_write := f23, fd_Disk_write := _, F_Disk_write := fun_mk (st := s_Disk_write) l23 c23 k23, b_Disk_write := (fun_mk (st := s_Disk_write) l23 c23 k23).binds (ps := ["self", "index", "block"]) fun _ _ _ _ _ _ us hl => match us, hl with | [_, _, _], _ => rfl,
    mm_Disk_write := ⟨a23, i23, k23⟩,
    a_Disk_flush := f24, fd_Disk_flush := _, F_Disk_flush := fun_mk (st := s_Disk_flush) l24 c24 k24, b_Disk_flush := (fun_mk (st := s_Disk_flush) l24 c24 k24).binds (ps := ["self"]) fun _ _ _ _ _ _ us hl => match us, hl with | [_], _ => rfl,
    mm_Disk_flush := ⟨a24, i24, k24⟩,
    a_Disk_behind := f25, fd_Disk_behind := _, F_Disk_behind := fun_mk (st := s_Disk_behind) l25 c25 k25, b_Disk_behind := (fun_mk (st := s_Disk_behind) l25 c25 k25).binds (ps := ["self", "choice"]) fun _ _ _ _ _ _ us hl => match us, hl with | [_, _], _ => rfl,
    mm_Disk_behind := ⟨a25, i25, k25⟩,
    a_Disk_offers := f26, fd_Disk_offers := _, F_Disk_offers := fun_mk (st := s_Disk_offers) l26 c26 k26, b_Disk_offers := (fun_mk (st := s_Disk_offers) l26 c26 k26).binds (ps := ["self"]) fun _ _ _ _ _ _ us hl => match us, hl with | [_], _ => rfl,
    mm_Disk_offers := ⟨a26, i26, k26⟩,
    a_Disk_need_power := f27, fd_Disk_need_power := _, F_Disk_need_power := fun_mk (st := s_Disk_need_power) l27 c27 k27, b_Disk_need_power := (fun_mk (st := s_Disk_need_power) l27 c27 k27).binds (ps := ["self"]) fun _ _ _ _ _ _ us hl => match us, hl with | [_], _ => rfl,
    mm_Disk_need_power := ⟨a27, i27, k27⟩,
    a_Disk_take_step := f28, fd_Disk_take_step := _, F_Disk_take_step := fun_mk (st := s_Disk_take_step) l28 c28 k28, b_Disk_take_step := (fun_mk (st := s_Disk_take_step) l28 c28 k28).binds (ps := ["self"]) fun _ _ _ _ _ _ us hl => match us, hl with | [_], _ => rfl,
    mm_Disk_take_step := ⟨a28, i28, k28⟩,
    kb_Disk_read_0 := kbm_kb_Disk_read_0 (fun_mk (st := s_Disk_read) l22 c22 k22),
    kb_Disk_write_0 := kbm_kb_Disk_write_0 (fun_mk (st := s_Disk_write) l23 c23 k23),
    kb_Disk_behind_0 := kbm_kb_Disk_behind_0 (fun_mk (st := s_Disk_behind) l25 c25 k25),
    m_all := PySem.W.mg_none_of X G z0,
    m_bool := PySem.W.mg_none_of X G z1,
    m_int := PySem.W.mg_none_of X G z2,
    m_isinstance := PySem.W.mg_none_of X G z3,
    m_len := PySem.W.mg_none_of X G z4,
    m_list := PySem.W.mg_none_of X G z5,
    m_range := PySem.W.mg_none_of X G z6,
    m_reversed := PySem.W.mg_none_of X G z7,
    m_str := PySem.W.mg_none_of X G z8,
    m_tuple := PySem.W.mg_none_of X G z9,
    m_type := PySem.W.mg_none_of X G z10,
    m_zip := PySem.W.mg_none_of X G z11,
    x_InvalidBlock := x_InvalidBlock, q_InvalidBlock := PySem.W.mg_of X G xa_InvalidBlock,
    e_InvalidBlock := xe_InvalidBlock, k_InvalidBlock := xk_InvalidBlock, s_InvalidBlock := xs_InvalidBlock, t_InvalidBlock := xt_InvalidBlock,
    x_InvalidIndex := x_InvalidIndex, q_InvalidIndex := PySem.W.mg_of X G xa_InvalidIndex,
    e_InvalidIndex := xe_InvalidIndex, k_InvalidIndex := xk_InvalidIndex, s_InvalidIndex := xs_InvalidIndex, t_InvalidIndex := xt_InvalidIndex,
    x_PowerCut := x_PowerCut, q_PowerCut := PySem.W.mg_of X G xa_PowerCut,
    e_PowerCut := xe_PowerCut, k_PowerCut := xk_PowerCut, s_PowerCut := xs_PowerCut, t_PowerCut := xt_PowerCut,
    x_StoreError := x_StoreError, q_StoreError := PySem.W.mg_of X G xa_StoreError,
    m_InvalidBlock_InvalidBlock := exm_pair xy_InvalidBlock xi_InvalidBlock xz_InvalidBlock xp_InvalidBlock_InvalidBlock,
    m_InvalidBlock_InvalidIndex := exm_pair xy_InvalidIndex xi_InvalidIndex xz_InvalidIndex xp_InvalidBlock_InvalidIndex,
    m_InvalidBlock_PowerCut := exm_pair xy_PowerCut xi_PowerCut xz_PowerCut xp_InvalidBlock_PowerCut,
    m_InvalidBlock_StoreError := exm_pair xy_StoreError xi_StoreError xz_StoreError xp_InvalidBlock_StoreError,
    m_InvalidIndex_InvalidBlock := exm_pair xy_InvalidBlock xi_InvalidBlock xz_InvalidBlock xp_InvalidIndex_InvalidBlock,
    m_InvalidIndex_InvalidIndex := exm_pair xy_InvalidIndex xi_InvalidIndex xz_InvalidIndex xp_InvalidIndex_InvalidIndex,
    m_InvalidIndex_PowerCut := exm_pair xy_PowerCut xi_PowerCut xz_PowerCut xp_InvalidIndex_PowerCut,
    m_InvalidIndex_StoreError := exm_pair xy_StoreError xi_StoreError xz_StoreError xp_InvalidIndex_StoreError,
    m_PowerCut_InvalidBlock := exm_pair xy_InvalidBlock xi_InvalidBlock xz_InvalidBlock xp_PowerCut_InvalidBlock,
    m_PowerCut_InvalidIndex := exm_pair xy_InvalidIndex xi_InvalidIndex xz_InvalidIndex xp_PowerCut_InvalidIndex,
    m_PowerCut_PowerCut := exm_pair xy_PowerCut xi_PowerCut xz_PowerCut xp_PowerCut_PowerCut,
    m_PowerCut_StoreError := exm_pair xy_StoreError xi_StoreError xz_StoreError xp_PowerCut_StoreError,
    z_InvalidBlock := ⟨hg_InvalidBlock, hk_InvalidBlock, xs_InvalidBlock, hdd_InvalidBlock, ha_InvalidBlock, hn0, ht0, hm_InvalidBlock⟩,
    i_InvalidBlock_InvalidBlock := kit_pair xi_InvalidBlock xz_InvalidBlock xp_InvalidBlock_InvalidBlock xp_InvalidBlock_InvalidBlock,
    i_InvalidBlock_InvalidIndex := kit_pair xi_InvalidIndex xz_InvalidIndex xp_InvalidBlock_InvalidIndex xp_InvalidBlock_InvalidBlock,
    i_InvalidBlock_PowerCut := kit_pair xi_PowerCut xz_PowerCut xp_InvalidBlock_PowerCut xp_InvalidBlock_InvalidBlock,
    z_InvalidIndex := ⟨hg_InvalidIndex, hk_InvalidIndex, xs_InvalidIndex, hdd_InvalidIndex, ha_InvalidIndex, hn0, ht0, hm_InvalidIndex⟩,
    i_InvalidIndex_InvalidBlock := kit_pair xi_InvalidBlock xz_InvalidBlock xp_InvalidIndex_InvalidBlock xp_InvalidIndex_InvalidIndex,
    i_InvalidIndex_InvalidIndex := kit_pair xi_InvalidIndex xz_InvalidIndex xp_InvalidIndex_InvalidIndex xp_InvalidIndex_InvalidIndex,
    i_InvalidIndex_PowerCut := kit_pair xi_PowerCut xz_PowerCut xp_InvalidIndex_PowerCut xp_InvalidIndex_InvalidIndex,
    z_PowerCut := ⟨hg_PowerCut, hk_PowerCut, xs_PowerCut, hdd_PowerCut, ha_PowerCut, hn0, ht0, hm_PowerCut⟩,
    i_PowerCut_InvalidBlock := kit_pair xi_InvalidBlock xz_InvalidBlock xp_PowerCut_InvalidBlock xp_PowerCut_PowerCut,
    i_PowerCut_InvalidIndex := kit_pair xi_InvalidIndex xz_InvalidIndex xp_PowerCut_InvalidIndex xp_PowerCut_PowerCut,
    i_PowerCut_PowerCut := kit_pair xi_PowerCut xz_PowerCut xp_PowerCut_PowerCut xp_PowerCut_PowerCut }
theorem all_mk {l : PySem.W.OpenLaw} {w : World} {K : PySem.W.Frag} {h : Heap} {mg : Str → Option Value} {fa : Addr} (X : K.In h) (G : h.Ns mainGlobals mg) (hfa : mg "law" = some (.ref fa))
    {C_Disk : Addr} (ac_Disk : PySem.W.nsIn K mainGlobals "Disk" = some (some (.ref C_Disk))) (pg_Disk : PySem.W.plainGet K C_Disk Str.empty = true) (hd_Disk : PySem.W.hasDictIn K C_Disk = true) (po_Disk : PySem.W.plainOver K C_Disk = true) (sa_Disk : PySem.W.findIn K (.ref C_Disk) "__setattr__" = some (some (.builtin "object.__setattr__"))) (mks_Disk : PySem.W.makesIn K C_Disk = true) (kc_Disk : PySem.W.keepIn K (.ref C_Disk) = true) (n0_Disk : PySem.W.findIn K (.ref C_Disk) "image" = some none) (n1_Disk : PySem.W.findIn K (.ref C_Disk) "out" = some none) (n2_Disk : PySem.W.findIn K (.ref C_Disk) "pending" = some none) (n3_Disk : PySem.W.findIn K (.ref C_Disk) "signs" = some none) (n4_Disk : PySem.W.findIn K (.ref C_Disk) "steps" = some none)
    {f0 : Addr} {od0 an0 : Option Addr} {sl0 : Array (Option Value)} {oc0 kV0 dc0 pm0 cd0 ct0 : Value}
    (a0 : PySem.W.nsIn K mainGlobals "is_text" = some (some (.ref f0))) (l0 : K.lookup f0 = some ⟨oc0, od0, .func (PySem.W.fnOf "is_text" "is_text" (defArgs s_is_text) (defBody s_is_text) (defScope s_is_text) .none kV0 dc0 pm0 an0 cd0 ct0), sl0⟩) (c0 : PySem.W.codeIn K cd0 "is_text" = true) (k0 : PySem.W.keepIn K (.ref f0) = true)
    {f1 : Addr} {od1 an1 : Option Addr} {sl1 : Array (Option Value)} {oc1 kV1 dc1 pm1 cd1 ct1 : Value}
    (a1 : PySem.W.nsIn K mainGlobals "is_number" = some (some (.ref f1))) (l1 : K.lookup f1 = some ⟨oc1, od1, .func (PySem.W.fnOf "is_number" "is_number" (defArgs s_is_number) (defBody s_is_number) (defScope s_is_number) .none kV1 dc1 pm1 an1 cd1 ct1), sl1⟩) (c1 : PySem.W.codeIn K cd1 "is_number" = true) (k1 : PySem.W.keepIn K (.ref f1) = true)
    {f2 : Addr} {od2 an2 : Option Addr} {sl2 : Array (Option Value)} {oc2 kV2 dc2 pm2 cd2 ct2 : Value}
    (a2 : PySem.W.nsIn K mainGlobals "is_block" = some (some (.ref f2))) (l2 : K.lookup f2 = some ⟨oc2, od2, .func (PySem.W.fnOf "is_block" "is_block" (defArgs s_is_block) (defBody s_is_block) (defScope s_is_block) .none kV2 dc2 pm2 an2 cd2 ct2), sl2⟩) (c2 : PySem.W.codeIn K cd2 "is_block" = true) (k2 : PySem.W.keepIn K (.ref f2) = true)
    {f3 : Addr} {od3 an3 : Option Addr} {sl3 : Array (Option Value)} {oc3 kV3 dc3 pm3 cd3 ct3 : Value}
    (a3 : PySem.W.nsIn K mainGlobals "check_signs" = some (some (.ref f3))) (l3 : K.lookup f3 = some ⟨oc3, od3, .func (PySem.W.fnOf "check_signs" "check_signs" (defArgs s_check_signs) (defBody s_check_signs) (defScope s_check_signs) .none kV3 dc3 pm3 an3 cd3 ct3), sl3⟩) (c3 : PySem.W.codeIn K cd3 "check_signs" = true) (k3 : PySem.W.keepIn K (.ref f3) = true)
    {f4 : Addr} {od4 an4 : Option Addr} {sl4 : Array (Option Value)} {oc4 kV4 dc4 pm4 cd4 ct4 : Value}
    (a4 : PySem.W.nsIn K mainGlobals "check_image" = some (some (.ref f4))) (l4 : K.lookup f4 = some ⟨oc4, od4, .func (PySem.W.fnOf "check_image" "check_image" (defArgs s_check_image) (defBody s_check_image) (defScope s_check_image) .none kV4 dc4 pm4 an4 cd4 ct4), sl4⟩) (c4 : PySem.W.codeIn K cd4 "check_image" = true) (k4 : PySem.W.keepIn K (.ref f4) = true)
    {f5 : Addr} {od5 an5 : Option Addr} {sl5 : Array (Option Value)} {oc5 kV5 dc5 pm5 cd5 ct5 : Value}
    (a5 : PySem.W.nsIn K mainGlobals "check_index" = some (some (.ref f5))) (l5 : K.lookup f5 = some ⟨oc5, od5, .func (PySem.W.fnOf "check_index" "check_index" (defArgs s_check_index) (defBody s_check_index) (defScope s_check_index) .none kV5 dc5 pm5 an5 cd5 ct5), sl5⟩) (c5 : PySem.W.codeIn K cd5 "check_index" = true) (k5 : PySem.W.keepIn K (.ref f5) = true)
    {f6 : Addr} {od6 an6 : Option Addr} {sl6 : Array (Option Value)} {oc6 kV6 dc6 pm6 cd6 ct6 : Value}
    (a6 : PySem.W.nsIn K mainGlobals "check_block" = some (some (.ref f6))) (l6 : K.lookup f6 = some ⟨oc6, od6, .func (PySem.W.fnOf "check_block" "check_block" (defArgs s_check_block) (defBody s_check_block) (defScope s_check_block) .none kV6 dc6 pm6 an6 cd6 ct6), sl6⟩) (c6 : PySem.W.codeIn K cd6 "check_block" = true) (k6 : PySem.W.keepIn K (.ref f6) = true)
    {f7 : Addr} {od7 an7 : Option Addr} {sl7 : Array (Option Value)} {oc7 kV7 dc7 pm7 cd7 ct7 : Value}
    (a7 : PySem.W.nsIn K mainGlobals "check_from" = some (some (.ref f7))) (l7 : K.lookup f7 = some ⟨oc7, od7, .func (PySem.W.fnOf "check_from" "check_from" (defArgs s_check_from) (defBody s_check_from) (defScope s_check_from) .none kV7 dc7 pm7 an7 cd7 ct7), sl7⟩) (c7 : PySem.W.codeIn K cd7 "check_from" = true) (k7 : PySem.W.keepIn K (.ref f7) = true)
    {f8 : Addr} {od8 an8 : Option Addr} {sl8 : Array (Option Value)} {oc8 kV8 dc8 pm8 cd8 ct8 : Value}
    (a8 : PySem.W.nsIn K mainGlobals "_law_spring" = some (some (.ref f8))) (l8 : K.lookup f8 = some ⟨oc8, od8, .func (PySem.W.fnOf "_law_spring" "_law_spring" (defArgs s__law_spring) (defBody s__law_spring) (defScope s__law_spring) .none kV8 dc8 pm8 an8 cd8 ct8), sl8⟩) (c8 : PySem.W.codeIn K cd8 "_law_spring" = true) (k8 : PySem.W.keepIn K (.ref f8) = true)
    {f9 : Addr} {od9 an9 : Option Addr} {sl9 : Array (Option Value)} {oc9 kV9 dc9 pm9 cd9 ct9 : Value}
    (a9 : PySem.W.nsIn K mainGlobals "_law_drop" = some (some (.ref f9))) (l9 : K.lookup f9 = some ⟨oc9, od9, .func (PySem.W.fnOf "_law_drop" "_law_drop" (defArgs s__law_drop) (defBody s__law_drop) (defScope s__law_drop) .none kV9 dc9 pm9 an9 cd9 ct9), sl9⟩) (c9 : PySem.W.codeIn K cd9 "_law_drop" = true) (k9 : PySem.W.keepIn K (.ref f9) = true)
    {f10 : Addr} {od10 an10 : Option Addr} {sl10 : Array (Option Value)} {oc10 kV10 dc10 pm10 cd10 ct10 : Value}
    (a10 : PySem.W.nsIn K mainGlobals "_law_text" = some (some (.ref f10))) (l10 : K.lookup f10 = some ⟨oc10, od10, .func (PySem.W.fnOf "_law_text" "_law_text" (defArgs s__law_text) (defBody s__law_text) (defScope s__law_text) .none kV10 dc10 pm10 an10 cd10 ct10), sl10⟩) (c10 : PySem.W.codeIn K cd10 "_law_text" = true) (k10 : PySem.W.keepIn K (.ref f10) = true)
    {f11 : Addr} {od11 an11 : Option Addr} {sl11 : Array (Option Value)} {oc11 kV11 dc11 pm11 cd11 ct11 : Value}
    (a11 : PySem.W.nsIn K mainGlobals "_law_kinds" = some (some (.ref f11))) (l11 : K.lookup f11 = some ⟨oc11, od11, .func (PySem.W.fnOf "_law_kinds" "_law_kinds" (defArgs s__law_kinds) (defBody s__law_kinds) (defScope s__law_kinds) .none kV11 dc11 pm11 an11 cd11 ct11), sl11⟩) (c11 : PySem.W.codeIn K cd11 "_law_kinds" = true) (k11 : PySem.W.keepIn K (.ref f11) = true)
    {f12 : Addr} {od12 an12 : Option Addr} {sl12 : Array (Option Value)} {oc12 kV12 dc12 pm12 cd12 ct12 : Value}
    (a12 : PySem.W.nsIn K mainGlobals "_law_alike" = some (some (.ref f12))) (l12 : K.lookup f12 = some ⟨oc12, od12, .func (PySem.W.fnOf "_law_alike" "_law_alike" (defArgs s__law_alike) (defBody s__law_alike) (defScope s__law_alike) .none kV12 dc12 pm12 an12 cd12 ct12), sl12⟩) (c12 : PySem.W.codeIn K cd12 "_law_alike" = true) (k12 : PySem.W.keepIn K (.ref f12) = true)
    {f13 : Addr} {od13 an13 : Option Addr} {sl13 : Array (Option Value)} {oc13 kV13 dc13 pm13 cd13 ct13 : Value}
    (a13 : PySem.W.nsIn K mainGlobals "_law_word" = some (some (.ref f13))) (l13 : K.lookup f13 = some ⟨oc13, od13, .func (PySem.W.fnOf "_law_word" "_law_word" (defArgs s__law_word) (defBody s__law_word) (defScope s__law_word) .none kV13 dc13 pm13 an13 cd13 ct13), sl13⟩) (c13 : PySem.W.codeIn K cd13 "_law_word" = true) (k13 : PySem.W.keepIn K (.ref f13) = true)
    {f14 : Addr} {od14 an14 : Option Addr} {sl14 : Array (Option Value)} {oc14 kV14 dc14 pm14 cd14 ct14 : Value}
    (a14 : PySem.W.nsIn K mainGlobals "_law_told" = some (some (.ref f14))) (l14 : K.lookup f14 = some ⟨oc14, od14, .func (PySem.W.fnOf "_law_told" "_law_told" (defArgs s__law_told) (defBody s__law_told) (defScope s__law_told) .none kV14 dc14 pm14 an14 cd14 ct14), sl14⟩) (c14 : PySem.W.codeIn K cd14 "_law_told" = true) (k14 : PySem.W.keepIn K (.ref f14) = true)
    {f15 : Addr} {od15 an15 : Option Addr} {sl15 : Array (Option Value)} {oc15 kV15 dc15 pm15 cd15 ct15 : Value}
    (a15 : PySem.W.nsIn K mainGlobals "_law_newest" = some (some (.ref f15))) (l15 : K.lookup f15 = some ⟨oc15, od15, .func (PySem.W.fnOf "_law_newest" "_law_newest" (defArgs s__law_newest) (defBody s__law_newest) (defScope s__law_newest) .none kV15 dc15 pm15 an15 cd15 ct15), sl15⟩) (c15 : PySem.W.codeIn K cd15 "_law_newest" = true) (k15 : PySem.W.keepIn K (.ref f15) = true)
    {f16 : Addr} {od16 an16 : Option Addr} {sl16 : Array (Option Value)} {oc16 kV16 dc16 pm16 cd16 ct16 : Value}
    (a16 : PySem.W.nsIn K mainGlobals "_law_due" = some (some (.ref f16))) (l16 : K.lookup f16 = some ⟨oc16, od16, .func (PySem.W.fnOf "_law_due" "_law_due" (defArgs s__law_due) (defBody s__law_due) (defScope s__law_due) .none kV16 dc16 pm16 an16 cd16 ct16), sl16⟩) (c16 : PySem.W.codeIn K cd16 "_law_due" = true) (k16 : PySem.W.keepIn K (.ref f16) = true)
    {f17 : Addr} {od17 an17 : Option Addr} {sl17 : Array (Option Value)} {oc17 kV17 dc17 pm17 cd17 ct17 : Value}
    (a17 : PySem.W.nsIn K mainGlobals "_law_deed" = some (some (.ref f17))) (l17 : K.lookup f17 = some ⟨oc17, od17, .func (PySem.W.fnOf "_law_deed" "_law_deed" (defArgs s__law_deed) (defBody s__law_deed) (defScope s__law_deed) .none kV17 dc17 pm17 an17 cd17 ct17), sl17⟩) (c17 : PySem.W.codeIn K cd17 "_law_deed" = true) (k17 : PySem.W.keepIn K (.ref f17) = true)
    {f18 : Addr} {od18 an18 : Option Addr} {sl18 : Array (Option Value)} {oc18 kV18 dc18 pm18 cd18 ct18 : Value}
    (a18 : PySem.W.nsIn K mainGlobals "_law_stands" = some (some (.ref f18))) (l18 : K.lookup f18 = some ⟨oc18, od18, .func (PySem.W.fnOf "_law_stands" "_law_stands" (defArgs s__law_stands) (defBody s__law_stands) (defScope s__law_stands) .none kV18 dc18 pm18 an18 cd18 ct18), sl18⟩) (c18 : PySem.W.codeIn K cd18 "_law_stands" = true) (k18 : PySem.W.keepIn K (.ref f18) = true)
    {f19 : Addr} {od19 an19 : Option Addr} {sl19 : Array (Option Value)} {oc19 kV19 dc19 pm19 cd19 ct19 : Value}
    (a19 : PySem.W.nsIn K mainGlobals "_law_behind_right" = some (some (.ref f19))) (l19 : K.lookup f19 = some ⟨oc19, od19, .func (PySem.W.fnOf "_law_behind_right" "_law_behind_right" (defArgs s__law_behind_right) (defBody s__law_behind_right) (defScope s__law_behind_right) .none kV19 dc19 pm19 an19 cd19 ct19), sl19⟩) (c19 : PySem.W.codeIn K cd19 "_law_behind_right" = true) (k19 : PySem.W.keepIn K (.ref f19) = true)
    {f20 : Addr} {od20 an20 : Option Addr} {sl20 : Array (Option Value)} {oc20 kV20 dc20 pm20 cd20 ct20 : Value}
    (a20 : PySem.W.nsIn K mainGlobals "law" = some (some (.ref f20))) (l20 : K.lookup f20 = some ⟨oc20, od20, .func (PySem.W.fnOf "law" "law" (defArgs s_law) (defBody s_law) (defScope s_law) .none kV20 dc20 pm20 an20 cd20 ct20), sl20⟩) (c20 : PySem.W.codeIn K cd20 "law" = true) (k20 : PySem.W.keepIn K (.ref f20) = true)
    {f21 : Addr} {od21 an21 : Option Addr} {sl21 : Array (Option Value)} {oc21 kV21 dc21 pm21 cd21 ct21 : Value} {T21 : Addr} {ocT21 : Value} {odT21 : Option Addr} {nT21 : Nat} {slT21 : Array (Option Value)}
    (a21 : PySem.W.findIn K (.ref C_Disk) "__init__" = some (some (.ref f21))) (i21 : PySem.W.isFn K (.ref f21) = true) (l21 : K.lookup f21 = some ⟨oc21, od21, .func (PySem.W.fnOf "__init__" "Disk.__init__" (defArgs s_Disk_init) (defBody s_Disk_init) (defScope s_Disk_init) (.ref T21) kV21 dc21 pm21 an21 cd21 ct21), sl21⟩) (d21 : K.lookup T21 = some ⟨ocT21, odT21, .seq #[.none] nT21, slT21⟩) (c21 : PySem.W.codeIn K cd21 "Disk.__init__" = true) (k21 : PySem.W.keepIn K (.ref f21) = true)
    {f22 : Addr} {od22 an22 : Option Addr} {sl22 : Array (Option Value)} {oc22 kV22 dc22 pm22 cd22 ct22 : Value}
    (a22 : PySem.W.findIn K (.ref C_Disk) "read" = some (some (.ref f22))) (i22 : PySem.W.isFn K (.ref f22) = true) (l22 : K.lookup f22 = some ⟨oc22, od22, .func (PySem.W.fnOf "read" "Disk.read" (defArgs s_Disk_read) (defBody s_Disk_read) (defScope s_Disk_read) .none kV22 dc22 pm22 an22 cd22 ct22), sl22⟩) (c22 : PySem.W.codeIn K cd22 "Disk.read" = true) (k22 : PySem.W.keepIn K (.ref f22) = true)
    {f23 : Addr} {od23 an23 : Option Addr} {sl23 : Array (Option Value)} {oc23 kV23 dc23 pm23 cd23 ct23 : Value}
    (a23 : PySem.W.findIn K (.ref C_Disk) "write" = some (some (.ref f23))) (i23 : PySem.W.isFn K (.ref f23) = true) (l23 : K.lookup f23 = some ⟨oc23, od23, .func (PySem.W.fnOf "write" "Disk.write" (defArgs s_Disk_write) (defBody s_Disk_write) (defScope s_Disk_write) .none kV23 dc23 pm23 an23 cd23 ct23), sl23⟩) (c23 : PySem.W.codeIn K cd23 "Disk.write" = true) (k23 : PySem.W.keepIn K (.ref f23) = true)
    {f24 : Addr} {od24 an24 : Option Addr} {sl24 : Array (Option Value)} {oc24 kV24 dc24 pm24 cd24 ct24 : Value}
    (a24 : PySem.W.findIn K (.ref C_Disk) "flush" = some (some (.ref f24))) (i24 : PySem.W.isFn K (.ref f24) = true) (l24 : K.lookup f24 = some ⟨oc24, od24, .func (PySem.W.fnOf "flush" "Disk.flush" (defArgs s_Disk_flush) (defBody s_Disk_flush) (defScope s_Disk_flush) .none kV24 dc24 pm24 an24 cd24 ct24), sl24⟩) (c24 : PySem.W.codeIn K cd24 "Disk.flush" = true) (k24 : PySem.W.keepIn K (.ref f24) = true)
    {f25 : Addr} {od25 an25 : Option Addr} {sl25 : Array (Option Value)} {oc25 kV25 dc25 pm25 cd25 ct25 : Value}
    (a25 : PySem.W.findIn K (.ref C_Disk) "behind" = some (some (.ref f25))) (i25 : PySem.W.isFn K (.ref f25) = true) (l25 : K.lookup f25 = some ⟨oc25, od25, .func (PySem.W.fnOf "behind" "Disk.behind" (defArgs s_Disk_behind) (defBody s_Disk_behind) (defScope s_Disk_behind) .none kV25 dc25 pm25 an25 cd25 ct25), sl25⟩) (c25 : PySem.W.codeIn K cd25 "Disk.behind" = true) (k25 : PySem.W.keepIn K (.ref f25) = true)
    {f26 : Addr} {od26 an26 : Option Addr} {sl26 : Array (Option Value)} {oc26 kV26 dc26 pm26 cd26 ct26 : Value}
    (a26 : PySem.W.findIn K (.ref C_Disk) "offers" = some (some (.ref f26))) (i26 : PySem.W.isFn K (.ref f26) = true) (l26 : K.lookup f26 = some ⟨oc26, od26, .func (PySem.W.fnOf "offers" "Disk.offers" (defArgs s_Disk_offers) (defBody s_Disk_offers) (defScope s_Disk_offers) .none kV26 dc26 pm26 an26 cd26 ct26), sl26⟩) (c26 : PySem.W.codeIn K cd26 "Disk.offers" = true) (k26 : PySem.W.keepIn K (.ref f26) = true)
    {f27 : Addr} {od27 an27 : Option Addr} {sl27 : Array (Option Value)} {oc27 kV27 dc27 pm27 cd27 ct27 : Value}
    (a27 : PySem.W.findIn K (.ref C_Disk) "need_power" = some (some (.ref f27))) (i27 : PySem.W.isFn K (.ref f27) = true) (l27 : K.lookup f27 = some ⟨oc27, od27, .func (PySem.W.fnOf "need_power" "Disk.need_power" (defArgs s_Disk_need_power) (defBody s_Disk_need_power) (defScope s_Disk_need_power) .none kV27 dc27 pm27 an27 cd27 ct27), sl27⟩) (c27 : PySem.W.codeIn K cd27 "Disk.need_power" = true) (k27 : PySem.W.keepIn K (.ref f27) = true)
    {f28 : Addr} {od28 an28 : Option Addr} {sl28 : Array (Option Value)} {oc28 kV28 dc28 pm28 cd28 ct28 : Value}
    (a28 : PySem.W.findIn K (.ref C_Disk) "take_step" = some (some (.ref f28))) (i28 : PySem.W.isFn K (.ref f28) = true) (l28 : K.lookup f28 = some ⟨oc28, od28, .func (PySem.W.fnOf "take_step" "Disk.take_step" (defArgs s_Disk_take_step) (defBody s_Disk_take_step) (defScope s_Disk_take_step) .none kV28 dc28 pm28 an28 cd28 ct28), sl28⟩) (c28 : PySem.W.codeIn K cd28 "Disk.take_step" = true) (k28 : PySem.W.keepIn K (.ref f28) = true)
    (z0 : PySem.W.nsIn K mainGlobals "all" = some none)
    (z1 : PySem.W.nsIn K mainGlobals "bool" = some none)
    (z2 : PySem.W.nsIn K mainGlobals "int" = some none)
    (z3 : PySem.W.nsIn K mainGlobals "isinstance" = some none)
    (z4 : PySem.W.nsIn K mainGlobals "len" = some none)
    (z5 : PySem.W.nsIn K mainGlobals "list" = some none)
    (z6 : PySem.W.nsIn K mainGlobals "range" = some none)
    (z7 : PySem.W.nsIn K mainGlobals "reversed" = some none)
    (z8 : PySem.W.nsIn K mainGlobals "str" = some none)
    (z9 : PySem.W.nsIn K mainGlobals "tuple" = some none)
    (z10 : PySem.W.nsIn K mainGlobals "type" = some none)
    (z11 : PySem.W.nsIn K mainGlobals "zip" = some none)
    {x_InvalidBlock : Addr} (xa_InvalidBlock : PySem.W.nsIn K mainGlobals "InvalidBlock" = some (some (.ref x_InvalidBlock))) (xe_InvalidBlock : PySem.W.excIn K x_InvalidBlock [.type "ValueError", .type "Exception", .type "BaseException", .type "object"] "ValueError.__new__" = true) (xk_InvalidBlock : PySem.W.keepIn K (.ref x_InvalidBlock) = true) (xs_InvalidBlock : PySem.W.subIn K (.ref x_InvalidBlock) (.type "BaseException") = some true) (xt_InvalidBlock : PySem.W.typeIn K (.ref x_InvalidBlock) = some (.type "type")) (xy_InvalidBlock : PySem.W.subIn K (.ref x_InvalidBlock) (.type "BaseException") = some true) (xi_InvalidBlock : PySem.W.isClsIn K x_InvalidBlock = true) (xz_InvalidBlock : PySem.W.typeIn K (.ref x_InvalidBlock) = some (.type "type"))
    {x_InvalidIndex : Addr} (xa_InvalidIndex : PySem.W.nsIn K mainGlobals "InvalidIndex" = some (some (.ref x_InvalidIndex))) (xe_InvalidIndex : PySem.W.excIn K x_InvalidIndex [.type "ValueError", .type "Exception", .type "BaseException", .type "object"] "ValueError.__new__" = true) (xk_InvalidIndex : PySem.W.keepIn K (.ref x_InvalidIndex) = true) (xs_InvalidIndex : PySem.W.subIn K (.ref x_InvalidIndex) (.type "BaseException") = some true) (xt_InvalidIndex : PySem.W.typeIn K (.ref x_InvalidIndex) = some (.type "type")) (xy_InvalidIndex : PySem.W.subIn K (.ref x_InvalidIndex) (.type "BaseException") = some true) (xi_InvalidIndex : PySem.W.isClsIn K x_InvalidIndex = true) (xz_InvalidIndex : PySem.W.typeIn K (.ref x_InvalidIndex) = some (.type "type"))
    {x_PowerCut : Addr} (xa_PowerCut : PySem.W.nsIn K mainGlobals "PowerCut" = some (some (.ref x_PowerCut))) (xe_PowerCut : PySem.W.excIn K x_PowerCut [.type "ValueError", .type "Exception", .type "BaseException", .type "object"] "ValueError.__new__" = true) (xk_PowerCut : PySem.W.keepIn K (.ref x_PowerCut) = true) (xs_PowerCut : PySem.W.subIn K (.ref x_PowerCut) (.type "BaseException") = some true) (xt_PowerCut : PySem.W.typeIn K (.ref x_PowerCut) = some (.type "type")) (xy_PowerCut : PySem.W.subIn K (.ref x_PowerCut) (.type "BaseException") = some true) (xi_PowerCut : PySem.W.isClsIn K x_PowerCut = true) (xz_PowerCut : PySem.W.typeIn K (.ref x_PowerCut) = some (.type "type"))
    {x_StoreError : Addr} (xa_StoreError : PySem.W.nsIn K mainGlobals "StoreError" = some (some (.ref x_StoreError))) (xy_StoreError : PySem.W.subIn K (.ref x_StoreError) (.type "BaseException") = some true) (xi_StoreError : PySem.W.isClsIn K x_StoreError = true) (xz_StoreError : PySem.W.typeIn K (.ref x_StoreError) = some (.type "type"))
    (xp_InvalidBlock_InvalidBlock : PySem.W.subIn K (.ref x_InvalidBlock) (.ref x_InvalidBlock) = some true)
    (xp_InvalidBlock_InvalidIndex : PySem.W.subIn K (.ref x_InvalidBlock) (.ref x_InvalidIndex) = some false)
    (xp_InvalidBlock_PowerCut : PySem.W.subIn K (.ref x_InvalidBlock) (.ref x_PowerCut) = some false)
    (xp_InvalidBlock_StoreError : PySem.W.subIn K (.ref x_InvalidBlock) (.ref x_StoreError) = some true)
    (xp_InvalidIndex_InvalidBlock : PySem.W.subIn K (.ref x_InvalidIndex) (.ref x_InvalidBlock) = some false)
    (xp_InvalidIndex_InvalidIndex : PySem.W.subIn K (.ref x_InvalidIndex) (.ref x_InvalidIndex) = some true)
    (xp_InvalidIndex_PowerCut : PySem.W.subIn K (.ref x_InvalidIndex) (.ref x_PowerCut) = some false)
    (xp_InvalidIndex_StoreError : PySem.W.subIn K (.ref x_InvalidIndex) (.ref x_StoreError) = some true)
    (xp_PowerCut_InvalidBlock : PySem.W.subIn K (.ref x_PowerCut) (.ref x_InvalidBlock) = some false)
    (xp_PowerCut_InvalidIndex : PySem.W.subIn K (.ref x_PowerCut) (.ref x_InvalidIndex) = some false)
    (xp_PowerCut_PowerCut : PySem.W.subIn K (.ref x_PowerCut) (.ref x_PowerCut) = some true)
    (xp_PowerCut_StoreError : PySem.W.subIn K (.ref x_PowerCut) (.ref x_StoreError) = some true)
    (hn0 : PySem.W.specialIn K (.builtin "object.__class__") "__get__" = some (some (.builtin "getset_descriptor.__get__"))) (ht0 : PySem.W.takesIn K (.builtin "object.__class__") = some true)
    (hg_InvalidBlock : PySem.W.findIn K (.ref x_InvalidBlock) "__getattribute__" = some (some (.builtin "BaseException.__getattribute__"))) (hk_InvalidBlock : PySem.W.findIn K (.ref x_InvalidBlock) "__getattr__" = some none) (hdd_InvalidBlock : PySem.W.hasDictIn K x_InvalidBlock = true) (ha_InvalidBlock : PySem.W.findIn K (.ref x_InvalidBlock) "__class__" = some (some (.builtin "object.__class__"))) (hm_InvalidBlock : PySem.W.mroIn K x_InvalidBlock (.type "object") = some true)
    (hg_InvalidIndex : PySem.W.findIn K (.ref x_InvalidIndex) "__getattribute__" = some (some (.builtin "BaseException.__getattribute__"))) (hk_InvalidIndex : PySem.W.findIn K (.ref x_InvalidIndex) "__getattr__" = some none) (hdd_InvalidIndex : PySem.W.hasDictIn K x_InvalidIndex = true) (ha_InvalidIndex : PySem.W.findIn K (.ref x_InvalidIndex) "__class__" = some (some (.builtin "object.__class__"))) (hm_InvalidIndex : PySem.W.mroIn K x_InvalidIndex (.type "object") = some true)
    (hg_PowerCut : PySem.W.findIn K (.ref x_PowerCut) "__getattribute__" = some (some (.builtin "BaseException.__getattribute__"))) (hk_PowerCut : PySem.W.findIn K (.ref x_PowerCut) "__getattr__" = some none) (hdd_PowerCut : PySem.W.hasDictIn K x_PowerCut = true) (ha_PowerCut : PySem.W.findIn K (.ref x_PowerCut) "__class__" = some (some (.builtin "object.__class__"))) (hm_PowerCut : PySem.W.mroIn K x_PowerCut (.type "object") = some true) :
    ∃ fd : FuncData, (∀ (s : Shared) (v : Value), BindsTo s fd ⟨[v], []⟩ [("_law_script", v)]) ∧ ∀ base : Heap, K.In base → base.Ns mainGlobals mg → FnOk l.prog w K mg base CX0 7 fa fd ["_law_script"] (spLaw K) := by
  have e := hfa.symm.trans (PySem.W.mg_of X G a20)
  cases e
  have Y := fx_mk X G ac_Disk pg_Disk hd_Disk po_Disk sa_Disk mks_Disk kc_Disk n0_Disk n1_Disk n2_Disk n3_Disk n4_Disk a0 l0 c0 k0 a1 l1 c1 k1 a2 l2 c2 k2 a3 l3 c3 k3 a4 l4 c4 k4 a5 l5 c5 k5 a6 l6 c6 k6 a7 l7 c7 k7 a8 l8 c8 k8 a9 l9 c9 k9 a10 l10 c10 k10 a11 l11 c11 k11 a12 l12 c12 k12 a13 l13 c13 k13 a14 l14 c14 k14 a15 l15 c15 k15 a16 l16 c16 k16 a17 l17 c17 k17 a18 l18 c18 k18 a19 l19 c19 k19 a20 l20 c20 k20 a21 i21 l21 d21 c21 k21 a22 i22 l22 c22 k22 a23 i23 l23 c23 k23 a24 i24 l24 c24 k24 a25 i25 l25 c25 k25 a26 i26 l26 c26 k26 a27 i27 l27 c27 k27 a28 i28 l28 c28 k28 z0 z1 z2 z3 z4 z5 z6 z7 z8 z9 z10 z11 xa_InvalidBlock xe_InvalidBlock xk_InvalidBlock xs_InvalidBlock xt_InvalidBlock xy_InvalidBlock xi_InvalidBlock xz_InvalidBlock xa_InvalidIndex xe_InvalidIndex xk_InvalidIndex xs_InvalidIndex xt_InvalidIndex xy_InvalidIndex xi_InvalidIndex xz_InvalidIndex xa_PowerCut xe_PowerCut xk_PowerCut xs_PowerCut xt_PowerCut xy_PowerCut xi_PowerCut xz_PowerCut xa_StoreError xy_StoreError xi_StoreError xz_StoreError xp_InvalidBlock_InvalidBlock xp_InvalidBlock_InvalidIndex xp_InvalidBlock_PowerCut xp_InvalidBlock_StoreError xp_InvalidIndex_InvalidBlock xp_InvalidIndex_InvalidIndex xp_InvalidIndex_PowerCut xp_InvalidIndex_StoreError xp_PowerCut_InvalidBlock xp_PowerCut_InvalidIndex xp_PowerCut_PowerCut xp_PowerCut_StoreError hn0 ht0 hg_InvalidBlock hk_InvalidBlock hdd_InvalidBlock ha_InvalidBlock hm_InvalidBlock hg_InvalidIndex hk_InvalidIndex hdd_InvalidIndex ha_InvalidIndex hm_InvalidIndex hg_PowerCut hk_PowerCut hdd_PowerCut ha_PowerCut hm_PowerCut
  exact ⟨PySem.W.fnOf "law" "law" (defArgs s_law) (defBody s_law) (defScope s_law) .none kV20 dc20 pm20 an20 cd20 ct20, fun s v => .of_eq rfl, fun base _ _ => ok_law (fx_mk X G ac_Disk pg_Disk hd_Disk po_Disk sa_Disk mks_Disk kc_Disk n0_Disk n1_Disk n2_Disk n3_Disk n4_Disk a0 l0 c0 k0 a1 l1 c1 k1 a2 l2 c2 k2 a3 l3 c3 k3 a4 l4 c4 k4 a5 l5 c5 k5 a6 l6 c6 k6 a7 l7 c7 k7 a8 l8 c8 k8 a9 l9 c9 k9 a10 l10 c10 k10 a11 l11 c11 k11 a12 l12 c12 k12 a13 l13 c13 k13 a14 l14 c14 k14 a15 l15 c15 k15 a16 l16 c16 k16 a17 l17 c17 k17 a18 l18 c18 k18 a19 l19 c19 k19 a20 l20 c20 k20 a21 i21 l21 d21 c21 k21 a22 i22 l22 c22 k22 a23 i23 l23 c23 k23 a24 i24 l24 c24 k24 a25 i25 l25 c25 k25 a26 i26 l26 c26 k26 a27 i27 l27 c27 k27 a28 i28 l28 c28 k28 z0 z1 z2 z3 z4 z5 z6 z7 z8 z9 z10 z11 xa_InvalidBlock xe_InvalidBlock xk_InvalidBlock xs_InvalidBlock xt_InvalidBlock xy_InvalidBlock xi_InvalidBlock xz_InvalidBlock xa_InvalidIndex xe_InvalidIndex xk_InvalidIndex xs_InvalidIndex xt_InvalidIndex xy_InvalidIndex xi_InvalidIndex xz_InvalidIndex xa_PowerCut xe_PowerCut xk_PowerCut xs_PowerCut xt_PowerCut xy_PowerCut xi_PowerCut xz_PowerCut xa_StoreError xy_StoreError xi_StoreError xz_StoreError xp_InvalidBlock_InvalidBlock xp_InvalidBlock_InvalidIndex xp_InvalidBlock_PowerCut xp_InvalidBlock_StoreError xp_InvalidIndex_InvalidBlock xp_InvalidIndex_InvalidIndex xp_InvalidIndex_PowerCut xp_InvalidIndex_StoreError xp_PowerCut_InvalidBlock xp_PowerCut_InvalidIndex xp_PowerCut_PowerCut xp_PowerCut_StoreError hn0 ht0 hg_InvalidBlock hk_InvalidBlock hdd_InvalidBlock ha_InvalidBlock hm_InvalidBlock hg_InvalidIndex hk_InvalidIndex hdd_InvalidIndex ha_InvalidIndex hm_InvalidIndex hg_PowerCut hk_PowerCut hdd_PowerCut ha_PowerCut hm_PowerCut)⟩
end My
open PySem PySem.W PyProof.Rows
set_option maxHeartbeats 0 in
theorem PySem.Challenge.cw_heldpasts_k06_whole_deeds_of_disks_holds : PySem.Challenge.rw_heldpasts_k06_whole_deeds_of_disks.Holds := by
  w_on; o_law; k_head; (case hw => w_witness2)
  k_fill
  refine L2.walk_of (l := PySem.Challenge.rw_heldpasts_k06_whole_deeds_of_disks) (n := 63) (k := 7) (x := "_law_script") (CX := fun _ => L2.CX0) (sp := fun w => My.spLaw _) rfl (by decide) rfl ⟨rfl, by decide, by decide⟩ (fun w h Y => PySem.W.kIn_of Y) ?F (fun _ _ a ns hl _ hS => ⟨a, ns, rfl, hS, hl, fun _ => rfl⟩) (fun _ _ _ _ _ h => h)
  case F =>
    intro w mg fa h KX G hmg
    refine' My.all_mk KX G hmg ?ac_Disk ?pg_Disk ?hd_Disk ?po_Disk ?sa_Disk ?mks_Disk ?kc_Disk ?n0_Disk ?n1_Disk ?n2_Disk ?n3_Disk ?n4_Disk ?a0 ?l0 ?c0 ?k0 ?a1 ?l1 ?c1 ?k1 ?a2 ?l2 ?c2 ?k2 ?a3 ?l3 ?c3 ?k3 ?a4 ?l4 ?c4 ?k4 ?a5 ?l5 ?c5 ?k5 ?a6 ?l6 ?c6 ?k6 ?a7 ?l7 ?c7 ?k7 ?a8 ?l8 ?c8 ?k8 ?a9 ?l9 ?c9 ?k9 ?a10 ?l10 ?c10 ?k10 ?a11 ?l11 ?c11 ?k11 ?a12 ?l12 ?c12 ?k12 ?a13 ?l13 ?c13 ?k13 ?a14 ?l14 ?c14 ?k14 ?a15 ?l15 ?c15 ?k15 ?a16 ?l16 ?c16 ?k16 ?a17 ?l17 ?c17 ?k17 ?a18 ?l18 ?c18 ?k18 ?a19 ?l19 ?c19 ?k19 ?a20 ?l20 ?c20 ?k20 ?a21 ?i21 ?l21 ?d21 ?c21 ?k21 ?a22 ?i22 ?l22 ?c22 ?k22 ?a23 ?i23 ?l23 ?c23 ?k23 ?a24 ?i24 ?l24 ?c24 ?k24 ?a25 ?i25 ?l25 ?c25 ?k25 ?a26 ?i26 ?l26 ?c26 ?k26 ?a27 ?i27 ?l27 ?c27 ?k27 ?a28 ?i28 ?l28 ?c28 ?k28 ?z0 ?z1 ?z2 ?z3 ?z4 ?z5 ?z6 ?z7 ?z8 ?z9 ?z10 ?z11 ?xa_InvalidBlock ?xe_InvalidBlock ?xk_InvalidBlock ?xs_InvalidBlock ?xt_InvalidBlock ?xy_InvalidBlock ?xi_InvalidBlock ?xz_InvalidBlock ?xa_InvalidIndex ?xe_InvalidIndex ?xk_InvalidIndex ?xs_InvalidIndex ?xt_InvalidIndex ?xy_InvalidIndex ?xi_InvalidIndex ?xz_InvalidIndex ?xa_PowerCut ?xe_PowerCut ?xk_PowerCut ?xs_PowerCut ?xt_PowerCut ?xy_PowerCut ?xi_PowerCut ?xz_PowerCut ?xa_StoreError ?xy_StoreError ?xi_StoreError ?xz_StoreError ?xp_InvalidBlock_InvalidBlock ?xp_InvalidBlock_InvalidIndex ?xp_InvalidBlock_PowerCut ?xp_InvalidBlock_StoreError ?xp_InvalidIndex_InvalidBlock ?xp_InvalidIndex_InvalidIndex ?xp_InvalidIndex_PowerCut ?xp_InvalidIndex_StoreError ?xp_PowerCut_InvalidBlock ?xp_PowerCut_InvalidIndex ?xp_PowerCut_PowerCut ?xp_PowerCut_StoreError ?hn0 ?ht0 ?hg_InvalidBlock ?hk_InvalidBlock ?hdd_InvalidBlock ?ha_InvalidBlock ?hm_InvalidBlock ?hg_InvalidIndex ?hk_InvalidIndex ?hdd_InvalidIndex ?ha_InvalidIndex ?hm_InvalidIndex ?hg_PowerCut ?hk_PowerCut ?hdd_PowerCut ?ha_PowerCut ?hm_PowerCut
    (case ac_Disk => k_is); (case pg_Disk => k_is); (case hd_Disk => k_is); (case po_Disk => k_is); (case sa_Disk => k_is); (case mks_Disk => k_is); (case kc_Disk => k_is); (case n0_Disk => k_is); (case n1_Disk => k_is); (case n2_Disk => k_is); (case n3_Disk => k_is); (case n4_Disk => k_is); (case a0 => k_is); (case l0 => k_is); (case c0 => k_is); (case k0 => k_is); (case a1 => k_is); (case l1 => k_is); (case c1 => k_is); (case k1 => k_is); (case a2 => k_is); (case l2 => k_is); (case c2 => k_is); (case k2 => k_is); (case a3 => k_is); (case l3 => k_is); (case c3 => k_is); (case k3 => k_is); (case a4 => k_is); (case l4 => k_is); (case c4 => k_is); (case k4 => k_is); (case a5 => k_is); (case l5 => k_is); (case c5 => k_is); (case k5 => k_is); (case a6 => k_is); (case l6 => k_is); (case c6 => k_is); (case k6 => k_is); (case a7 => k_is); (case l7 => k_is); (case c7 => k_is); (case k7 => k_is); (case a8 => k_is); (case l8 => k_is); (case c8 => k_is); (case k8 => k_is); (case a9 => k_is); (case l9 => k_is); (case c9 => k_is); (case k9 => k_is); (case a10 => k_is); (case l10 => k_is); (case c10 => k_is); (case k10 => k_is); (case a11 => k_is); (case l11 => k_is); (case c11 => k_is); (case k11 => k_is); (case a12 => k_is); (case l12 => k_is); (case c12 => k_is); (case k12 => k_is); (case a13 => k_is); (case l13 => k_is); (case c13 => k_is); (case k13 => k_is); (case a14 => k_is); (case l14 => k_is); (case c14 => k_is); (case k14 => k_is); (case a15 => k_is); (case l15 => k_is); (case c15 => k_is); (case k15 => k_is); (case a16 => k_is); (case l16 => k_is); (case c16 => k_is); (case k16 => k_is); (case a17 => k_is); (case l17 => k_is); (case c17 => k_is); (case k17 => k_is); (case a18 => k_is); (case l18 => k_is); (case c18 => k_is); (case k18 => k_is); (case a19 => k_is); (case l19 => k_is); (case c19 => k_is); (case k19 => k_is); (case a20 => k_is); (case l20 => k_is); (case c20 => k_is); (case k20 => k_is); (case a21 => k_is); (case i21 => k_is); (case l21 => k_is); (case d21 => k_is); (case c21 => k_is); (case k21 => k_is); (case a22 => k_is); (case i22 => k_is); (case l22 => k_is); (case c22 => k_is); (case k22 => k_is); (case a23 => k_is); (case i23 => k_is); (case l23 => k_is); (case c23 => k_is); (case k23 => k_is); (case a24 => k_is); (case i24 => k_is); (case l24 => k_is); (case c24 => k_is); (case k24 => k_is); (case a25 => k_is); (case i25 => k_is); (case l25 => k_is); (case c25 => k_is); (case k25 => k_is); (case a26 => k_is); (case i26 => k_is); (case l26 => k_is); (case c26 => k_is); (case k26 => k_is); (case a27 => k_is); (case i27 => k_is); (case l27 => k_is); (case c27 => k_is); (case k27 => k_is); (case a28 => k_is); (case i28 => k_is); (case l28 => k_is); (case c28 => k_is); (case k28 => k_is); (case z0 => k_is); (case z1 => k_is); (case z2 => k_is); (case z3 => k_is); (case z4 => k_is); (case z5 => k_is); (case z6 => k_is); (case z7 => k_is); (case z8 => k_is); (case z9 => k_is); (case z10 => k_is); (case z11 => k_is); (case xa_InvalidBlock => k_is); (case xe_InvalidBlock => first | k_exc | k_is); (case xk_InvalidBlock => k_is); (case xs_InvalidBlock => k_is); (case xt_InvalidBlock => k_is); (case xy_InvalidBlock => k_is); (case xi_InvalidBlock => k_is); (case xz_InvalidBlock => k_is); (case xa_InvalidIndex => k_is); (case xe_InvalidIndex => first | k_exc | k_is); (case xk_InvalidIndex => k_is); (case xs_InvalidIndex => k_is); (case xt_InvalidIndex => k_is); (case xy_InvalidIndex => k_is); (case xi_InvalidIndex => k_is); (case xz_InvalidIndex => k_is); (case xa_PowerCut => k_is); (case xe_PowerCut => first | k_exc | k_is); (case xk_PowerCut => k_is); (case xs_PowerCut => k_is); (case xt_PowerCut => k_is); (case xy_PowerCut => k_is); (case xi_PowerCut => k_is); (case xz_PowerCut => k_is); (case xa_StoreError => k_is); (case xy_StoreError => k_is); (case xi_StoreError => k_is); (case xz_StoreError => k_is); (case xp_InvalidBlock_InvalidBlock => first | rfl | k_is); (case xp_InvalidBlock_InvalidIndex => first | rfl | k_is); (case xp_InvalidBlock_PowerCut => first | rfl | k_is); (case xp_InvalidBlock_StoreError => first | rfl | k_is); (case xp_InvalidIndex_InvalidBlock => first | rfl | k_is); (case xp_InvalidIndex_InvalidIndex => first | rfl | k_is); (case xp_InvalidIndex_PowerCut => first | rfl | k_is); (case xp_InvalidIndex_StoreError => first | rfl | k_is); (case xp_PowerCut_InvalidBlock => first | rfl | k_is); (case xp_PowerCut_InvalidIndex => first | rfl | k_is); (case xp_PowerCut_PowerCut => first | rfl | k_is); (case xp_PowerCut_StoreError => first | rfl | k_is); (case hn0 => k_is); (case ht0 => k_is); (case hg_InvalidBlock => k_is); (case hk_InvalidBlock => k_is); (case hdd_InvalidBlock => k_is); (case ha_InvalidBlock => k_is); (case hm_InvalidBlock => k_is); (case hg_InvalidIndex => k_is); (case hk_InvalidIndex => k_is); (case hdd_InvalidIndex => k_is); (case ha_InvalidIndex => k_is); (case hm_InvalidIndex => k_is); (case hg_PowerCut => k_is); (case hk_PowerCut => k_is); (case hdd_PowerCut => k_is); (case ha_PowerCut => k_is); (case hm_PowerCut => k_is)

