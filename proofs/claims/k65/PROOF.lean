import PyProof.Rows.All
import Wide.All
import OpenK.AllK
import Wide.FinOn
import HandS.ForMost
import HandS.Wide
import HandS.More
import HandS.StrMore
import HandS.FStr
import HandS.IsInst
import HandS.TupAny
import HandS.Style
import HandS.Exc
import HandS.TryOnly
import HandS.ExcOwn
import HandS.WordsExc
import HandS.Evl
import HandS.Codes
import HandS.SortKw
import KE.DatumOrd
import HandS.Replace
import HandS.ReplaceList
import HandS.TryMany
import HandS.RaiseMore
import HandS.DictComp
import PySem.Challenge.RW_heldpasts_k65_names_that_hold
set_option Elab.async false
set_option linter.all false
set_option maxRecDepth 100000
set_option maxHeartbeats 4000000
/-! ### my rules: one name an operator, whatever the kinds -/
namespace My
open PySem PySem.Spec PyProof.Rows L2
section
variable {X : Cx}
theorem hu_64 {A : Around} {k : Nat} (hr : Room k A) : A.units + 64 < cLine := hr.units
/-! #### + -/
def rAddS : R2 := fun x y H Q => ∃ i j, x = .str i ∧ y = .str j ∧ i.length + j.length ≤ sizeLine ∧ Q (.str (i ++ j)) H
def rADD (K : PySem.W.Frag) : R2 := fun x y H Q => rI0 (fun i j => .int (i + j)) x y H Q ∨ rAddS x y H Q ∨ rCat x y H Q ∨ rCatA K x y H Q
theorem op_ADD : OpR X (binaryOp .Add) (rADD X.K) := op_add.or (OpR.or (r := rAddS) op_add_str (op_cat.or op_catA))
def rSUB : R2 := rI0 fun i j => .int (i - j)
theorem op_SUB : OpR X (binaryOp .Sub) rSUB := op_sub
/-! #### * -/
theorem cps_repl (l : Array Nat) (k : Nat) : (List.replicate k l).foldl (· ++ ·) #[] = ((List.replicate k l.toList).flatten).toArray := by
  have h : ∀ (n : Nat) (acc : Array Nat), (List.replicate n l).foldl (· ++ ·) acc = acc ++ ((List.replicate n l.toList).flatten).toArray := by
    intro n
    induction n with
    | zero => intro acc; simp
    | succ n ih =>
      intro acc
      rw [List.replicate_succ, List.foldl_cons, ih, List.replicate_succ, List.flatten_cons]
      apply Array.ext'
      simp
  rw [h]
  simp
/-- a text so many times -/
def repS (x : Str) (k : Int) : Str := ⟨((List.replicate k.toNat x.cps.toList).flatten).toArray⟩
def rMulS : R2 := fun x y H Q => ∃ z k, x = .str z ∧ y = .int k ∧ -(2 ^ 63) ≤ k ∧ k < 2 ^ 63 ∧ z.length * k.toNat ≤ sizeLine ∧ Q (.str (repS z k)) H
theorem op_mul_str : OpR X (binaryOp .Mult) rMulS := by
  intro pins s σ H x y v u Q I rx ry h
  obtain ⟨z, k, rfl, rfl, h1, h2, hz, q⟩ := h
  obtain ⟨t, rfl⟩ := rx
  obtain ⟨t', rfl⟩ := ry
  have hz' : z.length * k.toNat ≤ 2 ^ 24 := hz
  refine P.mul_str ?_ ?_ ?_ ?_
  · rw [decide_eq_false (by omega), decide_eq_false (by omega)]; rfl
  · intro h1 h3
    have hk : 0 < k := by omega
    have h4 : (z.length : Int) * k ≤ 2 ^ 24 := by
      have : ((z.length * k.toNat : Nat) : Int) ≤ 2 ^ 24 := by exact_mod_cast hz'
      rw [Int.natCast_mul, Int.toNat_of_nonneg (by omega)] at this
      exact this
    intro h5
    have h6 : (2 ^ 63 - 1) / k < (z.length : Int) := h5
    have h7 := (Int.ediv_lt_iff_lt_mul hk).mp h6
    omega
  · intro h1 h3
    exact decide_eq_false (Nat.not_lt.mpr hz)
  · by_cases h3 : k < 1
    · rw [if_pos h3]
      have e : repS z k = Str.empty := by
        unfold repS
        rw [show k.toNat = 0 by omega]
        rfl
      rw [e] at q
      exact ⟨by decide, ⟨.str Str.empty, H, I.tok _, ⟨_, rfl⟩, q⟩⟩
    · rw [if_neg h3]
      by_cases h4 : (k == 1 || z.length == 0) = true
      · rw [if_pos h4]
        have e : repS z k = z := by
          unfold repS
          rcases Bool.or_eq_true _ _ ▸ h4 with h5 | h5
          · rw [show k.toNat = 1 by have := of_decide_eq_true h5; omega]
            simp
          · have h6 : z.length = 0 := by simpa using h5
            have h7 : z.cps.toList = [] := by
              apply List.eq_nil_of_length_eq_zero
              rw [Array.length_toList]
              exact h6
            rw [h7]
            rcases z with ⟨c⟩
            have h8 : c = #[] := Array.ext' (by simpa using h7)
            subst h8
            simp
        rw [e] at q
        exact ⟨.str z, H, I, ⟨_, rfl⟩, q⟩
      · rw [if_neg h4]
        refine ⟨?_, ⟨.str (repS z k), H, I.tok _, ⟨s.toks, ?_⟩, q⟩⟩
        · show Str.length ⟨_⟩ ≤ sizeLine
          rw [cps_repl]
          show (List.toArray _).size ≤ sizeLine
          rw [List.size_toArray, List.length_flatten, List.map_replicate, List.sum_replicate_nat, Array.length_toList]
          show k.toNat * z.length ≤ sizeLine
          rw [Nat.mul_comm]
          exact hz
        · rw [cps_repl]
          rfl
def CMulA (i j : Int) : Prop := CMul i j ∨ CMulW i j
def rMulI : R2 := fun x y H Q => ∃ i j, x = .int i ∧ y = .int j ∧ CMulA i j ∧ Q (.int (i * j)) H
theorem op_mulA : OpR X (binaryOp .Mult) rMulI := opI fun _ _ _ _ _ _ _ hc q => mul_int q (hc.elim (fun h => h.ok) fun h => h.ok)
def rMUL (K : PySem.W.Frag) : R2 := fun x y H Q => rMulI x y H Q ∨ rMulS x y H Q ∨ rRep x y H Q
theorem op_MUL : OpR X (binaryOp .Mult) (rMUL X.K) := op_mulA.or (op_mul_str.or op_rep)
/-! #### //, percent, ** -/
def rMOD : R2 := rI (fun _ j => 0 < j) fun i j => .int (i % j)
theorem op_MOD : OpR X (binaryOp .Mod) rMOD := op_mod
def rFDIV : R2 := rI CDivW fun i j => .int (i / j)
theorem op_FDIV : OpR X (binaryOp .FloorDiv) rFDIV := op_fdivW
def rPOW : R2 := rI CPow fun i j => .int (i ^ j.toNat)
theorem op_POW : OpR X (binaryOp .Pow) rPOW := op_pow
def rNEG : V → Hp → VK → Prop := rU fun i => .int (-i)
theorem un_NEG : UnR X (unaryOp .USub) rNEG := un_neg
/-! #### comparisons -/
def rEQ (K : PySem.W.Frag) : R2 := fun x y H Q => rEq x y H Q ∨ rEqD K x y H Q
theorem op_EQ (hu : X.A.units + 64 < cLine) : OpR X (compareOp .Eq) (rEQ X.K) := op_eq.or (op_eqD hu)
def rNE (K : PySem.W.Frag) : R2 := fun x y H Q => rNe x y H Q ∨ rNeD K x y H Q
theorem op_NE (hu : X.A.units + 64 < cLine) : OpR X (compareOp .NotEq) (rNE X.K) := op_ne.or (op_neD hu)
def rCI (p : Int → Int → Bool) : R2 := rI0 fun i j => .bl (p i j)
def rCS (p : List Nat → List Nat → Bool) : R2 := fun x y H Q => ∃ i j, x = .str i ∧ y = .str j ∧ Q (.bl (p i.cps.toList j.cps.toList)) H
def rLT : R2 := fun x y H Q => rCI (fun i j => decide (i < j)) x y H Q ∨ rCS (fun i j => decide (i < j)) x y H Q
theorem op_LT : OpR X (compareOp .Lt) rLT := OpR.or (r := rCI _) (r' := rCS _) op_lt op_lt_str
def rLE : R2 := fun x y H Q => rCI (fun i j => decide (i ≤ j)) x y H Q ∨ rCS (fun i j => !decide (j < i)) x y H Q
theorem op_LE : OpR X (compareOp .LtE) rLE := OpR.or (r := rCI _) (r' := rCS _) op_le op_le_str
def rGT : R2 := fun x y H Q => rCI (fun i j => decide (j < i)) x y H Q ∨ rCS (fun i j => decide (j < i)) x y H Q
theorem op_GT : OpR X (compareOp .Gt) rGT := OpR.or (r := rCI _) (r' := rCS _) op_gt op_gt_str
def rGE : R2 := fun x y H Q => rCI (fun i j => decide (j ≤ i)) x y H Q ∨ rCS (fun i j => !decide (i < j)) x y H Q
theorem op_GE : OpR X (compareOp .GtE) rGE := OpR.or (r := rCI _) (r' := rCS _) op_ge op_ge_str
/-- is: None; types; a truth on the right -/
def rIsT (f : Bool → Bool) : R2 := fun x y H Q => ∃ b, y = .bl b ∧ Q (.bl (f (decide (x = .bl b)))) H
theorem op_is_true : OpR X (compareOp .Is) (rIsT id) := by
  intro pins s σ H x y v u Q I rx ry h
  obtain ⟨b, rfl, q⟩ := h
  cases (show u = Value.bool b from ry)
  by_cases e : x = .bl b
  · subst e
    cases (show v = Value.bool b from rx)
    exact wpAny_is_self rfl ⟨.bl true, H, I, rfl, by simpa using q⟩
  · have ne : v ≠ Value.bool b := by
      rintro rfl
      apply e
      cases x <;> first
        | (cases rx; done)
        | (cases rx; rfl)
        | (obtain ⟨t, z⟩ := rx; cases z)
    have hp : plainIs v (Value.bool b) = true := by
      cases x <;> first
        | (cases rx; rfl)
        | (obtain ⟨t, rfl⟩ := rx; rfl)
    exact wpAny_is_other hp ne ⟨.bl false, H, I, rfl, by simpa [e] using q⟩
theorem op_isnot_true : OpR X (compareOp .IsNot) (rIsT not) := by
  intro pins s σ H x y v u Q I rx ry h
  obtain ⟨b, rfl, q⟩ := h
  cases (show u = Value.bool b from ry)
  by_cases e : x = .bl b
  · subst e
    cases (show v = Value.bool b from rx)
    exact wpAny_isNot_self rfl ⟨.bl false, H, I, rfl, by simpa using q⟩
  · have ne : v ≠ Value.bool b := by
      rintro rfl
      apply e
      cases x <;> first
        | (cases rx; done)
        | (cases rx; rfl)
        | (obtain ⟨t, z⟩ := rx; cases z)
    have hp : plainIs v (Value.bool b) = true := by
      cases x <;> first
        | (cases rx; rfl)
        | (obtain ⟨t, rfl⟩ := rx; rfl)
    exact wpAny_isNot_other hp ne ⟨.bl true, H, I, rfl, by simpa [e] using q⟩
def rIsN1 (f : Bool → Bool) : R2 := fun x y H Q => y = .non ∧ Q (.bl (f (decide (x = .non)))) H
def rIsTy (f : Bool → Bool) : R2 := fun x y H Q => ∃ m n, x = .ty m ∧ y = .ty n ∧ Q (.bl (f (decide (m = n)))) H
def rIS (_ : PySem.W.Frag) : R2 := fun x y H Q => rIsN1 id x y H Q ∨ rIsTy id x y H Q ∨ rIsT id x y H Q
theorem op_IS : OpR X (compareOp .Is) (rIS X.K) := OpR.or (r := rIsN1 id) op_isN (OpR.or (r := rIsTy id) op_isTyB op_is_true)
def rISN (_ : PySem.W.Frag) : R2 := fun x y H Q => rIsN1 not x y H Q ∨ rIsTy not x y H Q ∨ rIsT not x y H Q
theorem op_ISN : OpR X (compareOp .IsNot) (rISN X.K) := OpR.or (r := rIsN1 not) op_notN (OpR.or (r := rIsTy not) op_notTyB op_isnot_true)
/-- in: a sign in a text; in a list or tuple -/
def rInSg (f : Bool → Bool) : R2 := fun x y H Q => ∃ (c : Nat) (z : Str), x = .str ⟨#[c]⟩ ∧ y = .str z ∧ Q (.bl (f (decide (c ∈ z.cps.toList)))) H
def rINU (K : PySem.W.Frag) : R2 := fun x y H Q => rInSg id x y H Q ∨ rIn K false x y H Q
theorem op_IN : OpR X (compareOp .In) (rINU X.K) := OpR.or (r := rInSg id) op_in_sign op_in_seq
def rNINU (K : PySem.W.Frag) : R2 := fun x y H Q => rInSg not x y H Q ∨ rIn K true x y H Q
theorem op_NIN : OpR X (compareOp .NotIn) (rNINU X.K) := OpR.or (r := rInSg not) op_notIn_sign op_notIn_seq
/-! #### subscripts, slices -/
def rIX (K : PySem.W.Frag) : R2 := rIx K
theorem ix_SEQ : IxR X (rIX X.K) := ix_seq
def rSL (K : PySem.W.Frag) : V → Option Int → Option Int → Hp → VK → Prop := fun x lo hi H Q => rSlS x lo hi H Q ∨ rSlL K x lo hi H Q ∨ rSlA K x lo hi H Q
theorem sl_SEQ : SlR X (rSL X.K) := SlR.or sl_str (SlR.or sl_list sl_tupA)
/-! #### tests -/
def tTru1 (K : PySem.W.Frag) (ta : TE) : TT := fun σ H Q => ta σ H fun x H' => ∃ k, TruV K x H' k ∧ Q k H'
theorem pt_tru {a : Expr} {ta : TE} (ha : PE X a ta) (he : ∀ whole, isTrue a X.env whole = (do let v ← whole; standAt a.pos; holding [v] (truthy v))) : PT X a (tTru1 X.K ta) := pt_truth ha he
/-! #### the module's constants -/
theorem pe_cI {x : Str} {i : Int} {pos : Pos} (hg : Gl X x) (h : ∃ t, X.mg x = some (.int i t)) (hd : (x == ("__debug__" : Str)) = false := by decide) : PE X (.Name x pos) (tC (.int i)) := by
  obtain ⟨t, h⟩ := h
  exact pe_glob hg h ⟨t, rfl⟩ hd
theorem pe_cS {x : Str} {i : Str} {pos : Pos} (hg : Gl X x) (h : ∃ t, X.mg x = some (.str i t)) (hd : (x == ("__debug__" : Str)) = false := by decide) : PE X (.Name x pos) (tC (.str i)) := by
  obtain ⟨t, h⟩ := h
  exact pe_glob hg h ⟨t, rfl⟩ hd
theorem pe_cR {x : Str} {a : Addr} {pos : Pos} (hg : Gl X x) (h : X.mg x = some (.ref a)) (hd : (x == ("__debug__" : Str)) = false := by decide) : PE X (.Name x pos) (tC (.ref a)) := pe_glob hg h rfl hd
/-! #### calls with keywords alone -/
section
variable {CX : CXT} {k : Nat} {f C : Addr} {fd : FuncData} {ps ks : List Str} {sp : Sp} {E : XK} {x m : Str} {p pos apos kpos : Pos} {e o : Expr} {es : List Expr} {kws : List Keyword} {te ta : TE} {t tk : TA} {nm : Option Str}
variable {g : List Value → List Value → List Value} {gV : List V → List V → List V}
def tCallK0 (sp : Sp) (gV : List V → List V → List V) (E : XK) (tk : TA) : TE := fun σ H Q => tk σ H fun zs H2 => sp (gV [] zs) H2 Q E
theorem pe_callK0 (F : FnOk X.prog X.w X.K X.mg X.base CX k f fd ps sp) (hr : Room k X.A) (hg : Gl X x) (hm : X.mg x = some (.ref f)) (hk : PySem.W.keepIn X.K (.ref f) = true) (hb : KBinds X.K fd ps ks g gV) (hx : Passes CX X E)
    (hkw : PK X kws tk) (hall : (backToKw pos (keywordEach kws X.env)).all (·.1.isSome) = true := by rfl) (hks : (backToKw pos (keywordEach kws X.env)).filterMap (·.1) = ks := by rfl)
    (hdb : (x == ("__debug__" : Str)) = false := by decide)
    (hpl : ((backTo pos (starEach [] X.env)).any (·.1) || (backToKw pos (keywordEach kws X.env)).any (·.1.isNone)) = false := by rfl) :
    PE X (.Call (.Name x p) [] kws pos) (tCallK0 sp gV E tk) := by
  refine ⟨fun pins s σ H Q I h => ?_⟩
  refine wpAny_Call_Name_kw (ld_glob I hg hm ?_ hdb)
  refine PySem.W.callWith_KW0 (h₀ := X.base) I.ok.mod.kin hk hall ?_ hpl
  refine thn (hkw.run pos pins s σ H _ I h) fun ws s2 ⟨zs, H2, I2, rz, q2⟩ => ⟨I2.kIn, ?_⟩
  rw [hks]
  exact run_fnk (us := []) (vs := []) F hr hb hx I2 .nil rz q2
end
/-! #### built-ins -/
def rINT : List V → Hp → VK → Prop := fun xs H Q => ((∃ i, xs = [.int i] ∧ Q (.int i) H) ∨ ∃ k, xs = [.bl k] ∧ Q (.int (if k then 1 else 0)) H) ∨ ∃ a n, xs = [.str a] ∧ PySem.intText? a = some n ∧ a.length ≤ 640 ∧ Q (.int n) H
theorem call_INT : CallR X (.type "int") rINT := call_int1.or call_int_str
def rSTR : List V → Hp → VK → Prop := fun xs H Q => ∃ i, xs = [.int i] ∧ i.natAbs.log2 < 1920 ∧ Q (.str (toString i)) H
theorem call_STR : CallR X (.type "str") rSTR := call_str_int
def rTUPLE (K : PySem.W.Frag) : List V → Hp → VK → Prop := fun xs H Q => ∃ p ys, xs = [.ref p] ∧ ((SqL K H p ys ∧ ∀ l, H l = none → Q (.ref l) (upd H l (.tup ys))) ∨ (SqT K H p ys ∧ Q (.ref p) H))
theorem call_TUPLE : CallR X (.type "tuple") (rTUPLE X.K) := call_tuple_of
def rLIST (K : PySem.W.Frag) : List V → Hp → VK → Prop := fun xs H Q => ∃ p ys, xs = [.ref p] ∧ (SqL K H p ys ∨ SqT K H p ys) ∧ ∀ l, H l = none → Q (.ref l) (upd H l (.lst ys))
theorem call_LIST : CallR X (.type "list") (rLIST X.K) := call_list_of
def rLenQ (K : PySem.W.Frag) : List V → Hp → VK → Prop := fun xs H Q => ∃ p ys, xs = [.ref p] ∧ (SqL K H p ys ∨ SqT K H p ys) ∧ Q (.int ys.length) H
def rLenS : List V → Hp → VK → Prop := fun xs H Q => ∃ z, xs = [.str z] ∧ z.length ≤ sizeLine ∧ Q (.int z.length) H
def rLEN (K : PySem.W.Frag) : List V → Hp → VK → Prop := fun xs H Q => rLenS xs H Q ∨ rLenQ K xs H Q
theorem call_LEN : CallR X (.builtin "len") (rLEN X.K) := CallR.or (r := rLenS) (r' := rLenQ X.K) call_len_str call_len_seq
def rABS : List V → Hp → VK → Prop := fun xs H Q => ∃ i, xs = [.int i] ∧ Q (.int (if i < 0 then -i else i)) H
theorem call_ABS : CallR X (.builtin "abs") rABS := call_abs
def rMAX2 : List V → Hp → VK → Prop := fun xs H Q => ∃ i j, xs = [.int i, .int j] ∧ Q (.int (if j > i then j else i)) H
theorem call_MAX2 (hc : X.calm = true) : CallR X (.builtin "max") rMAX2 := call_max2 hc
def rMIN2 : List V → Hp → VK → Prop := fun xs H Q => ∃ i j, xs = [.int i, .int j] ∧ Q (.int (if j < i then j else i)) H
theorem call_MIN2 (hc : X.calm = true) : CallR X (.builtin "min") rMIN2 := call_min2 hc
def rISI (K : PySem.W.Frag) : List V → Hp → VK → Prop := fun xs H Q => rIsi K xs H Q ∨ rIsiT K xs H Q
theorem call_ISI : CallR X (.builtin "isinstance") (rISI X.K) := call_isi.or call_isiT
/-! #### methods -/
def rM_isascii : V → List V → Hp → VK → Prop := fun x xs H Q => ∃ a, x = .str a ∧ xs = [] ∧ True ∧ Q (.bl (Txt.isascii a)) H
def rM_isprintable : V → List V → Hp → VK → Prop := fun x xs H Q => ∃ a, x = .str a ∧ xs = [] ∧ True ∧ Q (.bl (Txt.isprintable a)) H
def rM_isdigit : V → List V → Hp → VK → Prop := fun x xs H Q => ∃ a, x = .str a ∧ xs = [] ∧ True ∧ Q (.bl (Txt.isdigit a)) H
def rM_find : V → List V → Hp → VK → Prop := fun x xs H Q => ∃ a b, x = .str a ∧ xs = [.str b] ∧ Q (.int (Txt.find a b)) H
def rM_zfill : V → List V → Hp → VK → Prop := fun x xs H Q => ∃ (a : Str) (i : Int), x = .str a ∧ xs = [.int i] ∧ PadOk i = true ∧ Q (.str (Txt.zfill a i)) H
def rM_rjust : V → List V → Hp → VK → Prop := fun x xs H Q => ∃ (a : Str) (i : Int), x = .str a ∧ xs = [.int i] ∧ PadOk i = true ∧ Q (.str (Txt.rjust a i)) H
def rJoin (K : PySem.W.Frag) : V → List V → Hp → VK → Prop := fun x xs H Q => ∃ a p, ∃ ys : List Str, x = .str a ∧ xs = [.ref p] ∧ (SqL K H p (ys.map V.str) ∨ SqT K H p (ys.map V.str)) ∧
      (ys.map (·.length)).sum + ys.length * a.length ≤ 16777216 ∧ Q (.str (Txt.join a ys)) H
def rPOP : V → List V → Hp → VK → Prop := rPopAt
theorem mt_POP : MtR X "list.pop" rPOP := mt_popAt
theorem mt_FIND : MtR X "str.find" rM_find := mt_find
theorem mt_ZFILL : MtR X "str.zfill" rM_zfill := mt_zfill
theorem mt_RJUST : MtR X "str.rjust" rM_rjust := mt_rjust
/-- {x:0wd}: a number not below 0, with noughts ahead up to w signs -/
def zpad (w : Nat) (i : Int) : Str := ⟨(List.replicate (w - (Nat.toDigits 10 i.toNat).length) 48 ++ (Nat.toDigits 10 i.toNat).map Char.toNat).toArray⟩
end
end My

set_option Elab.async false
set_option linter.all false
set_option maxRecDepth 100000
set_option maxHeartbeats 400000
namespace My
open PySem PySem.Spec PyProof.Rows L2
section
variable {X : Cx}
theorem zpad_of {w : Nat} {a : Int} {D : List Nat} (h0 : 0 ≤ a) (hD : D = (Nat.toDigits 10 a.natAbs).map Char.toNat) (p1 : Nat) (p2 : Nat) (h1 : p1 = w - D.length) (h2 : p2 = 0) :
    (⟨(List.replicate 0 48 ++ [] ++ [] ++ List.replicate p2 48 ++ (List.replicate p1 48 ++ D) ++ [] ++ List.replicate 0 48).toArray⟩ : Str) = zpad w a := by
  subst hD h1 h2
  unfold zpad
  have e : a.natAbs = a.toNat := by omega
  rw [e, List.length_map]
  simp
theorem zpad_len {w : Nat} {a : Int} (h0 : 0 ≤ a) (hl : a.natAbs.log2 < 1920) (hw : w ≤ 100) : (zpad w a).length ≤ sizeLine := by
  have h1 : (Nat.toDigits 10 a.toNat).length ≤ 1921 := by
    have h2 : a.toNat < 10 ^ 1921 := by
      have h3 : a.toNat < 2 ^ 1920 := by
        have h4 : a.toNat = a.natAbs := by omega
        rw [h4]
        by_cases hz : a.natAbs = 0
        · rw [hz]; exact Nat.two_pow_pos _
        · exact (Nat.log2_lt hz).mp hl
      exact Nat.lt_of_lt_of_le h3 (Nat.le_trans (Nat.pow_le_pow_left (show 2 ≤ 10 by decide) 1920) (Nat.pow_le_pow_right (by decide) (by decide)))
    have h5 := (Nat.length_repr_le_iff (n := a.toNat) (k := 1921) (by decide)).mpr h2
    rwa [← String.length_toList, Nat.toList_repr] at h5
  show (List.toArray _).size ≤ sizeLine
  rw [List.size_toArray, List.length_append, List.length_replicate, List.length_map]
  exact Nat.le_trans (show _ ≤ 2100 by omega) (by decide)
theorem ret_text2 {M : Model} {A : Around} {E : Value → Shared → Prop} {s : Shared} {X T : PySem.Str} {Q : PySem.Fin → Shared → Prop} (e : X = T) (hL : T.length ≤ sizeLine) (h : ∀ t k, Q (.done (.ret (.str T t))) { s with toks := k }) : wpAny M A (retStr X) Q E s := by
  subst e
  exact PySem.W.KXf.ret_text rfl hL h
theorem fmt0_meets_3 {a : Int} {t : Tok} (h0 : 0 ≤ a) (hl : a.natAbs.log2 < 1920) :
  ∀ u, Meets (Builtin.«int.__format__» ⟨[.int a t, .str (Str.ofString "03d") u], []⟩) (fun _ R s => ∀ t' k, R (.ok (.ret (.str (zpad 3 a) t'))) { s with toks := k }) := by
  have hn : decide (a < 0) = false := decide_eq_false (by omega)
  intro u
  apply PySem.W.KPc.meets_of
  intro prog w A s Q E h
  unfold Builtin.«int.__format__»
  refine wpAny_bind (wpAny_of_eq (a := (_, _)) rfl ?_)
  refine wpAny_bind (wpAny_of_eq (a := _) rfl ?_)
  kxf_if
  refine wpAny_bind (wpAny_typeNameOf (T := "str") (typeIs_str _ _ _) (by decide) fun _ => ?_)
  refine wpAny_bind (wpAny_of_eq (a := some _) rfl ?_)
  kxf_if
  kxf_if
  refine wpAny_bind (wpAny_typeNameOfCut_int ?_)
  (repeat kxf_if)
  refine wpAny_bind (wpAny_of_eq (PySem.overDigitLimit_small hl) ?_)
  (repeat kxf_if)
  refine ret_text2 (T := zpad 3 a) ?_ (zpad_len h0 hl (by decide)) (fun t' k => h t' k)
  rw [hn]
  generalize hD : (List.map _ (Nat.toDigits _ a.natAbs)) = D
  have hD' : D = (Nat.toDigits 10 a.natAbs).map Char.toNat := hD.symm
  clear hD
  cases D with
  | nil => exact absurd (congrArg List.length hD') (by rw [List.length_map]; have := Nat.length_toDigits_pos (b := 10) (n := a.natAbs); simp; omega)
  | cons d ds =>
    refine zpad_of h0 hD' _ _ ?_ ?_
    · rfl
    · show ((3 : Int) - 0 - (((List.replicate (3 - (d :: ds).length) 48 ++ (d :: ds)).length : Nat) : Int)).toNat = 0
      rw [List.length_append, List.length_replicate]
      omega
theorem fmt0_meets_4 {a : Int} {t : Tok} (h0 : 0 ≤ a) (hl : a.natAbs.log2 < 1920) :
  ∀ u, Meets (Builtin.«int.__format__» ⟨[.int a t, .str (Str.ofString "04d") u], []⟩) (fun _ R s => ∀ t' k, R (.ok (.ret (.str (zpad 4 a) t'))) { s with toks := k }) := by
  have hn : decide (a < 0) = false := decide_eq_false (by omega)
  intro u
  apply PySem.W.KPc.meets_of
  intro prog w A s Q E h
  unfold Builtin.«int.__format__»
  refine wpAny_bind (wpAny_of_eq (a := (_, _)) rfl ?_)
  refine wpAny_bind (wpAny_of_eq (a := _) rfl ?_)
  kxf_if
  refine wpAny_bind (wpAny_typeNameOf (T := "str") (typeIs_str _ _ _) (by decide) fun _ => ?_)
  refine wpAny_bind (wpAny_of_eq (a := some _) rfl ?_)
  kxf_if
  kxf_if
  refine wpAny_bind (wpAny_typeNameOfCut_int ?_)
  (repeat kxf_if)
  refine wpAny_bind (wpAny_of_eq (PySem.overDigitLimit_small hl) ?_)
  (repeat kxf_if)
  refine ret_text2 (T := zpad 4 a) ?_ (zpad_len h0 hl (by decide)) (fun t' k => h t' k)
  rw [hn]
  generalize hD : (List.map _ (Nat.toDigits _ a.natAbs)) = D
  have hD' : D = (Nat.toDigits 10 a.natAbs).map Char.toNat := hD.symm
  clear hD
  cases D with
  | nil => exact absurd (congrArg List.length hD') (by rw [List.length_map]; have := Nat.length_toDigits_pos (b := 10) (n := a.natAbs); simp; omega)
  | cons d ds =>
    refine zpad_of h0 hD' _ _ ?_ ?_
    · rfl
    · show ((4 : Int) - 0 - (((List.replicate (4 - (d :: ds).length) 48 ++ (d :: ds)).length : Nat) : Int)).toNat = 0
      rw [List.length_append, List.length_replicate]
      omega
theorem fmt0_meets_6 {a : Int} {t : Tok} (h0 : 0 ≤ a) (hl : a.natAbs.log2 < 1920) :
  ∀ u, Meets (Builtin.«int.__format__» ⟨[.int a t, .str (Str.ofString "06d") u], []⟩) (fun _ R s => ∀ t' k, R (.ok (.ret (.str (zpad 6 a) t'))) { s with toks := k }) := by
  have hn : decide (a < 0) = false := decide_eq_false (by omega)
  intro u
  apply PySem.W.KPc.meets_of
  intro prog w A s Q E h
  unfold Builtin.«int.__format__»
  refine wpAny_bind (wpAny_of_eq (a := (_, _)) rfl ?_)
  refine wpAny_bind (wpAny_of_eq (a := _) rfl ?_)
  kxf_if
  refine wpAny_bind (wpAny_typeNameOf (T := "str") (typeIs_str _ _ _) (by decide) fun _ => ?_)
  refine wpAny_bind (wpAny_of_eq (a := some _) rfl ?_)
  kxf_if
  kxf_if
  refine wpAny_bind (wpAny_typeNameOfCut_int ?_)
  (repeat kxf_if)
  refine wpAny_bind (wpAny_of_eq (PySem.overDigitLimit_small hl) ?_)
  (repeat kxf_if)
  refine ret_text2 (T := zpad 6 a) ?_ (zpad_len h0 hl (by decide)) (fun t' k => h t' k)
  rw [hn]
  generalize hD : (List.map _ (Nat.toDigits _ a.natAbs)) = D
  have hD' : D = (Nat.toDigits 10 a.natAbs).map Char.toNat := hD.symm
  clear hD
  cases D with
  | nil => exact absurd (congrArg List.length hD') (by rw [List.length_map]; have := Nat.length_toDigits_pos (b := 10) (n := a.natAbs); simp; omega)
  | cons d ds =>
    refine zpad_of h0 hD' _ _ ?_ ?_
    · rfl
    · show ((6 : Int) - 0 - (((List.replicate (6 - (d :: ds).length) 48 ++ (d :: ds)).length : Nat) : Int)).toNat = 0
      rw [List.length_append, List.length_replicate]
      omega
theorem fmt0_meets_8 {a : Int} {t : Tok} (h0 : 0 ≤ a) (hl : a.natAbs.log2 < 1920) :
  ∀ u, Meets (Builtin.«int.__format__» ⟨[.int a t, .str (Str.ofString "08d") u], []⟩) (fun _ R s => ∀ t' k, R (.ok (.ret (.str (zpad 8 a) t'))) { s with toks := k }) := by
  have hn : decide (a < 0) = false := decide_eq_false (by omega)
  intro u
  apply PySem.W.KPc.meets_of
  intro prog w A s Q E h
  unfold Builtin.«int.__format__»
  refine wpAny_bind (wpAny_of_eq (a := (_, _)) rfl ?_)
  refine wpAny_bind (wpAny_of_eq (a := _) rfl ?_)
  kxf_if
  refine wpAny_bind (wpAny_typeNameOf (T := "str") (typeIs_str _ _ _) (by decide) fun _ => ?_)
  refine wpAny_bind (wpAny_of_eq (a := some _) rfl ?_)
  kxf_if
  kxf_if
  refine wpAny_bind (wpAny_typeNameOfCut_int ?_)
  (repeat kxf_if)
  refine wpAny_bind (wpAny_of_eq (PySem.overDigitLimit_small hl) ?_)
  (repeat kxf_if)
  refine ret_text2 (T := zpad 8 a) ?_ (zpad_len h0 hl (by decide)) (fun t' k => h t' k)
  rw [hn]
  generalize hD : (List.map _ (Nat.toDigits _ a.natAbs)) = D
  have hD' : D = (Nat.toDigits 10 a.natAbs).map Char.toNat := hD.symm
  clear hD
  cases D with
  | nil => exact absurd (congrArg List.length hD') (by rw [List.length_map]; have := Nat.length_toDigits_pos (b := 10) (n := a.natAbs); simp; omega)
  | cons d ds =>
    refine zpad_of h0 hD' _ _ ?_ ?_
    · rfl
    · show ((8 : Int) - 0 - (((List.replicate (8 - (d :: ds).length) 48 ++ (d :: ds)).length : Nat) : Int)).toNat = 0
      rw [List.length_append, List.length_replicate]
      omega
/-- 0wd: the specs that are served -/
def FmtW (spec : Str) (w : Nat) : Prop := (spec = Str.ofString "06d" ∧ w = 6) ∨ (spec = Str.ofString "04d" ∧ w = 4) ∨ (spec = Str.ofString "03d" ∧ w = 3) ∨ (spec = Str.ofString "08d" ∧ w = 8)
def tFmt0 (w : Nat) (te : TE) : TE := fun σ H Q => te σ H fun x H1 => ∃ i : Int, x = .int i ∧ 0 ≤ i ∧ i.natAbs.log2 < 1920 ∧ Q (.str (zpad w i)) H1
theorem pe_fmt0 (w : Nat) {spec : Str} {e : Expr} {te : TE} {j : Nat} {p1 p2 pos : Pos} (he : PE X e te) (hs : FmtW spec w := by first | exact .inl ⟨rfl, rfl⟩ | exact .inr (.inl ⟨rfl, rfl⟩) | exact .inr (.inr (.inl ⟨rfl, rfl⟩)) | exact .inr (.inr (.inr ⟨rfl, rfl⟩))) :
    PE X (.FormattedValue e (-1) (some (.JoinedStr [.Constant (.str spec) j p1] p2)) pos) (tFmt0 w te) := by
  refine ⟨fun pins s σ H Q I h => ?_⟩
  refine wpAny_FormattedValue_spec (thn (he.run pins s σ H _ I h) fun v s1 hv => ?_)
  obtain ⟨x, H1, I1, r1, i, rfl, h0, hl, q⟩ := hv
  obtain ⟨t, rfl⟩ := r1
  refine wpAny_JoinedStr_one (Calls.Constant_str ⟨spec, _, rfl, ?_⟩)
  rcases hs with ⟨rfl, rfl⟩ | ⟨rfl, rfl⟩ | ⟨rfl, rfl⟩ | ⟨rfl, rfl⟩
  · exact PySem.W.KXf.field_int rfl (by decide) (by decide) (fmt0_meets_6 h0 hl) fun t' k => ⟨.str (zpad 6 i), H1, I1.tok _, ⟨t', rfl⟩, q⟩
  · exact PySem.W.KXf.field_int rfl (by decide) (by decide) (fmt0_meets_4 h0 hl) fun t' k => ⟨.str (zpad 4 i), H1, I1.tok _, ⟨t', rfl⟩, q⟩
  · exact PySem.W.KXf.field_int rfl (by decide) (by decide) (fmt0_meets_3 h0 hl) fun t' k => ⟨.str (zpad 3 i), H1, I1.tok _, ⟨t', rfl⟩, q⟩
  · exact PySem.W.KXf.field_int rfl (by decide) (by decide) (fmt0_meets_8 h0 hl) fun t' k => ⟨.str (zpad 8 i), H1, I1.tok _, ⟨t', rfl⟩, q⟩
end
end My

set_option Elab.async false
set_option linter.all false
set_option maxRecDepth 100000
set_option maxHeartbeats 400000
/-! ### readings, step by step -/
namespace My
open PySem PySem.Spec PyProof.Rows L2
abbrev St := L2.St
section
variable {K : PySem.W.Frag} {σ : St} {H : Hp} {Q : VK} {ta tb tc te : TE} {t u c : TT} {tr tr' : TA} {r r' : R2} {v x y z : V}
theorem x_var {i : Nat} (h : σ[i]? = some (some v)) (q : Q v H) : tVar i σ H Q := ⟨v, h, q⟩
theorem x_c (q : Q v H) : tC v σ H Q := q
theorem x_op (h : ta σ H fun x H1 => tb σ H1 fun y H2 => r x y H2 Q) : tOp r ta tb σ H Q := h
theorem x_un {r : V → Hp → VK → Prop} (h : ta σ H fun x H1 => r x H1 Q) : tUn r ta σ H Q := h
theorem x_tst {Q : Bool → Hp → Prop} (h : te σ H fun x H' => ∃ k, x = .bl k ∧ Q k H') : tTest te σ H Q := h
theorem x_bl {Q : Bool → Hp → Prop} {b : Bool} (h : Q b H) : ∃ k, V.bl b = .bl k ∧ Q k H := ⟨b, rfl, h⟩
theorem x_tru {Q : Bool → Hp → Prop} (h : ta σ H fun x H' => ∃ k, TruV K x H' k ∧ Q k H') : tTru1 K ta σ H Q := h
theorem x_truB {P : Bool → Prop} {b : Bool} (h : P b) : ∃ k, TruV K (.bl b) H k ∧ P k := ⟨b, rfl, h⟩
theorem x_truL {P : Bool → Prop} {p : Addr} {xs : List V} (hs : SqL K H p xs) (h : P (!xs.isEmpty)) : ∃ k, TruV K (.ref p) H k ∧ P k := ⟨_, .inl ⟨xs, hs, rfl⟩, h⟩
theorem x_truT {P : Bool → Prop} {p : Addr} {xs : List V} (hs : SqT K H p xs) (h : P (!xs.isEmpty)) : ∃ k, TruV K (.ref p) H k ∧ P k := ⟨_, .inr (.inl ⟨xs, hs, rfl⟩), h⟩
theorem x_truS {P : Bool → Prop} {s : Str} (hs : s.length ≤ sizeLine) (h : P ((s.length : Int) != 0)) : ∃ k, TruV K (.str s) H k ∧ P k := ⟨_, ⟨hs, rfl⟩, h⟩
theorem x_not {Q : Bool → Hp → Prop} (h : t σ H fun c H1 => Q (!c) H1) : tNot t σ H Q := h
theorem x_and {Q : Bool → Hp → Prop} (h : t σ H fun c H1 => if c = true then u σ H1 Q else Q false H1) : tAnd t u σ H Q := h
theorem x_or {Q : Bool → Hp → Prop} (h : t σ H fun c H1 => if c = true then Q true H1 else u σ H1 Q) : tOr t u σ H Q := h
theorem x_andV (h : ta σ H fun x H1 => ∃ c, x = .bl c ∧ if c = true then tb σ H1 Q else Q (.bl false) H1) : tAndV ta tb σ H Q := h
theorem x_orV (h : ta σ H fun x H1 => ∃ c, x = .bl c ∧ if c = true then Q (.bl true) H1 else tb σ H1 Q) : tOrV ta tb σ H Q := h
theorem x_notV (h : ta σ H fun x H1 => ∃ c, x = .bl c ∧ Q (.bl (!c)) H1) : tNotV ta σ H Q := h
theorem x_bl2 {b : Bool} {P : Bool → Prop} (h : P b) : ∃ k, V.bl b = .bl k ∧ P k := ⟨b, rfl, h⟩
theorem x_yes {Q : Bool → Hp → Prop} (h : Q true H) : tYes σ H Q := h
theorem x_if (h : c σ H fun b H1 => if b = true then ta σ H1 Q else tb σ H1 Q) : tIf c ta tb σ H Q := h
theorem x_nil {Q : List V → Hp → Prop} (q : Q [] H) : tNil σ H Q := q
theorem x_cons {Q : List V → Hp → Prop} (h : ta σ H fun x H1 => tr σ H1 fun xs H2 => Q (x :: xs) H2) : tCons ta tr σ H Q := h
theorem x_tup (h : tr σ H fun xs H1 => xs.length ≤ sizeLine ∧ ∀ p, H1 p = none → Q (.ref p) (upd H1 p (.tup xs))) : tTup tr σ H Q := h
theorem x_lst (h : tr σ H fun xs H1 => xs.length ≤ sizeLine ∧ ∀ p, H1 p = none → Q (.ref p) (upd H1 p (.lst xs))) : tLst tr σ H Q := h
theorem x_call {sp : Sp} {E : XK} (h : tr σ H fun vs H1 => sp vs H1 Q E) : tCall sp [] E tr σ H Q := by
  have e : (fun (vs : List V) (H1 : Hp) => sp (vs ++ []) H1 Q E) = fun vs H1 => sp vs H1 Q E := by funext vs H1; rw [List.append_nil]
  show tr σ H fun vs H1 => sp (vs ++ []) H1 Q E
  rw [e]
  exact h
theorem x_callK {sp : Sp} {gV : List V → List V → List V} {E : XK} (h : tr σ H fun vs H1 => tr' σ H1 fun zs H2 => sp (gV vs zs) H2 Q E) : tCallK sp gV E tr tr' σ H Q := h
theorem x_callK0 {sp : Sp} {gV : List V → List V → List V} {E : XK} (h : tr σ H fun zs H2 => sp (gV [] zs) H2 Q E) : tCallK0 sp gV E tr σ H Q := h
theorem x_cb {r : List V → Hp → VK → Prop} (h : tr σ H fun vs H1 => r vs H1 Q) : tCB r tr σ H Q := h
theorem x_bm {T : String} {r : V → List V → Hp → VK → Prop} (h : ta σ H fun x H1 => tyV K T x H1 ∧ tr σ H1 fun xs H2 => r x xs H2 Q) : tBM K T r ta tr σ H Q := h
theorem x_bm0 {T : String} {r : V → List V → Hp → VK → Prop} (h : ta σ H fun x H1 => tyV K T x H1 ∧ r x [] H1 Q) : tBM0 K T r ta σ H Q := h
theorem x_tyS {s : Str} {P : Prop} (h : P) : tyV K "str" (.str s) H ∧ P := ⟨rfl, h⟩
theorem x_tyL {p : Addr} {xs : List V} {P : Prop} (hs : SqL K H p xs) (h : P) : tyV K "list" (.ref p) H ∧ P := ⟨.inl ⟨rfl, xs, hs⟩, h⟩
theorem x_sl {r : V → Option Int → Option Int → Hp → VK → Prop} {tl th : TO} (h : te σ H fun x H1 => tl σ H1 fun l H2 => th σ H2 fun u H3 => r x l u H3 Q) : tSl r te tl th σ H Q := h
theorem x_nopart {Q : Option Int → Hp → Prop} (h : Q none H) : tNoPart σ H Q := h
theorem x_part {Q : Option Int → Hp → Prop} (h : te σ H fun x H1 => ∃ i, x = .int i ∧ Q (some i) H1) : tPart te σ H Q := h
theorem x_int {i : Int} {P : Int → Prop} (h : P i) : ∃ k, V.int i = .int k ∧ P k := ⟨i, rfl, h⟩
theorem x_str {s : Str} {P : Str → Prop} (h : P s) : ∃ k, V.str s = .str k ∧ P k := ⟨s, rfl, h⟩
theorem x_fmt (h : te σ H fun x H1 => (∃ y : Str, x = .str y ∧ y.length ≤ sizeLine ∧ Q (.str y) H1) ∨ ∃ i : Int, x = .int i ∧ i.natAbs.log2 < 1920 ∧ Q (.str (toString i)) H1) : tFmt te σ H Q := h
theorem x_fmtS {s : Str} {P : Int → Prop} (hs : s.length ≤ sizeLine) (h : Q (.str s) H) : (∃ y : Str, V.str s = .str y ∧ y.length ≤ sizeLine ∧ Q (.str y) H) ∨ ∃ i : Int, V.str s = .int i ∧ i.natAbs.log2 < 1920 ∧ Q (.str (toString i)) H := .inl ⟨s, rfl, hs, h⟩
theorem x_fmt0 {w : Nat} (h : te σ H fun x H1 => ∃ i : Int, x = .int i ∧ 0 ≤ i ∧ i.natAbs.log2 < 1920 ∧ Q (.str (zpad w i)) H1) : tFmt0 w te σ H Q := h
theorem x_fmtI {w : Nat} {i : Int} (h0 : 0 ≤ i) (hl : i.natAbs.log2 < 1920) (h : Q (.str (zpad w i)) H) : ∃ k : Int, V.int i = .int k ∧ 0 ≤ k ∧ k.natAbs.log2 < 1920 ∧ Q (.str (zpad w k)) H := ⟨i, rfl, h0, hl, h⟩
theorem x_js0 {acc : Str} {Q : Str → Hp → Prop} (h : Q acc H) : tJs [] acc σ H Q := h
theorem x_js {acc : Str} {Q : Str → Hp → Prop} {ts : List TE} (h : te σ H fun x H1 => ∃ y : Str, x = .str y ∧ (acc ++ y).length ≤ sizeLine ∧ tJs ts (acc ++ y) σ H1 Q) : tJs (te :: ts) acc σ H Q := h
theorem x_jsS {s acc : Str} {Q : Str → Hp → Prop} {ts : List TE} (hs : (acc ++ s).length ≤ sizeLine) (h : tJs ts (acc ++ s) σ H Q) : ∃ y : Str, V.str s = .str y ∧ (acc ++ y).length ≤ sizeLine ∧ tJs ts (acc ++ y) σ H Q := ⟨s, rfl, hs, h⟩
theorem x_chain (h : ta σ H fun x H1 => tb σ H1 fun y H2 => r x y H2 fun z H3 => ∃ k, z = .bl k ∧ (if k = true then tc σ H3 fun w' H4 => r' y w' H4 Q else Q (.bl false) H3)) : tChain r r' ta tb tc σ H Q := h
/-! leaves -/
theorem a_ii {i j : Int} (h : Q (.int (i + j)) H) : rADD K (.int i) (.int j) H Q := .inl ⟨i, j, rfl, rfl, h⟩
theorem a_ss {i j : Str} (hl : i.length + j.length ≤ sizeLine) (h : Q (.str (i ++ j)) H) : rADD K (.str i) (.str j) H Q := .inr (.inl ⟨i, j, rfl, rfl, hl, h⟩)
theorem a_ll {p q : Addr} {xs ys : List V} (hp : H p = some (.lst xs)) (hq : H q = some (.lst ys)) (hl : xs.length + ys.length ≤ sizeLine) (h : ∀ l, H l = none → Q (.ref l) (upd H l (.lst (xs ++ ys)))) : rADD K (.ref p) (.ref q) H Q :=
  .inr (.inr (.inl ⟨p, q, xs, ys, rfl, rfl, hp, hq, hl, h⟩))
theorem a_tt {p q : Addr} {xs ys : List V} (hp : SqT K H p xs) (hq : SqT K H q ys) (hl : xs.length + ys.length ≤ sizeLine) (h : (xs = [] → Q (.ref q) H) ∧ (xs ≠ [] → ys = [] → Q (.ref p) H) ∧ (xs ≠ [] → ys ≠ [] → ∀ l, H l = none → Q (.ref l) (upd H l (.tup (xs ++ ys))))) : rADD K (.ref p) (.ref q) H Q :=
  .inr (.inr (.inr ⟨p, q, xs, ys, rfl, rfl, hp, hq, hl, h⟩))
theorem s_ii {i j : Int} (h : Q (.int (i - j)) H) : rSUB (.int i) (.int j) H Q := ⟨i, j, rfl, rfl, h⟩
theorem m_ii {i j : Int} (hc : CMulA i j) (h : Q (.int (i * j)) H) : rMUL K (.int i) (.int j) H Q := .inl ⟨i, j, rfl, rfl, hc, h⟩
theorem m_si {s : Str} {k : Int} (h1 : -(2 ^ 63) ≤ k) (h2 : k < 2 ^ 63) (hl : s.length * k.toNat ≤ sizeLine) (h : Q (.str (repS s k)) H) : rMUL K (.str s) (.int k) H Q := .inr (.inl ⟨s, k, rfl, rfl, h1, h2, hl, h⟩)
theorem m_li {p : Addr} {xs : List V} {k : Int} (hp : H p = some (.lst xs)) (h1 : -(2 ^ 63) ≤ k) (h2 : k < 2 ^ 63) (hl : xs.length * k.toNat ≤ sizeLine) (h : ∀ l, H l = none → Q (.ref l) (upd H l (.lst (List.replicate k.toNat xs).flatten))) : rMUL K (.ref p) (.int k) H Q :=
  .inr (.inr ⟨p, k, xs, rfl, rfl, hp, h1, h2, hl, h⟩)
theorem md_ii {i j : Int} (hc : 0 < j) (h : Q (.int (i % j)) H) : rMOD (.int i) (.int j) H Q := ⟨i, j, rfl, rfl, hc, h⟩
theorem fd_ii {i j : Int} (hc : CDivW i j) (h : Q (.int (i / j)) H) : rFDIV (.int i) (.int j) H Q := ⟨i, j, rfl, rfl, hc, h⟩
theorem pw_ii {i j : Int} (hc : CPow i j) (h : Q (.int (i ^ j.toNat)) H) : rPOW (.int i) (.int j) H Q := ⟨i, j, rfl, rfl, hc, h⟩
theorem n_i {i : Int} (h : Q (.int (-i)) H) : rNEG (.int i) H Q := ⟨i, rfl, h⟩
theorem e_ii {i j : Int} (h : Q (.bl (decide (i = j))) H) : rEQ K (.int i) (.int j) H Q := .inl ⟨rfl, by rw [show decide (V.int i = V.int j) = decide (i = j) by simp]; exact h⟩
theorem e_ss {i j : Str} (h : Q (.bl (decide (i = j))) H) : rEQ K (.str i) (.str j) H Q := .inl ⟨rfl, by rw [show decide (V.str i = V.str j) = decide (i = j) by simp]; exact h⟩
theorem e_bb {i j : Bool} (h : Q (.bl (decide (i = j))) H) : rEQ K (.bl i) (.bl j) H Q := .inl ⟨rfl, by rw [show decide (V.bl i = V.bl j) = decide (i = j) by simp]; exact h⟩
theorem e_d {d e : PyData} (hd : Dp K H x d) (he : Dp K H y e) (h1 : SeqAt.shaped d = true) (h2 : SeqAt.shaped e = true) (h : Q (.bl (PyData.eqv d e)) H) : rEQ K x y H Q := .inr ⟨d, e, hd, he, h1, h2, h⟩
theorem ne_ii {i j : Int} (h : Q (.bl (!decide (i = j))) H) : rNE K (.int i) (.int j) H Q := .inl ⟨rfl, by rw [show decide (V.int i = V.int j) = decide (i = j) by simp]; exact h⟩
theorem ne_ss {i j : Str} (h : Q (.bl (!decide (i = j))) H) : rNE K (.str i) (.str j) H Q := .inl ⟨rfl, by rw [show decide (V.str i = V.str j) = decide (i = j) by simp]; exact h⟩
theorem ne_bb {i j : Bool} (h : Q (.bl (!decide (i = j))) H) : rNE K (.bl i) (.bl j) H Q := .inl ⟨rfl, by rw [show decide (V.bl i = V.bl j) = decide (i = j) by simp]; exact h⟩
theorem ne_d {d e : PyData} (hd : Dp K H x d) (he : Dp K H y e) (h1 : SeqAt.shaped d = true) (h2 : SeqAt.shaped e = true) (h : Q (.bl (!PyData.eqv d e)) H) : rNE K x y H Q := .inr ⟨d, e, hd, he, h1, h2, h⟩
theorem lt_ii {i j : Int} (h : Q (.bl (decide (i < j))) H) : rLT (.int i) (.int j) H Q := .inl ⟨i, j, rfl, rfl, h⟩
theorem lt_ss {i j : Str} (h : Q (.bl (decide (i.cps.toList < j.cps.toList))) H) : rLT (.str i) (.str j) H Q := .inr ⟨i, j, rfl, rfl, h⟩
theorem le_ii {i j : Int} (h : Q (.bl (decide (i ≤ j))) H) : rLE (.int i) (.int j) H Q := .inl ⟨i, j, rfl, rfl, h⟩
theorem gt_ii {i j : Int} (h : Q (.bl (decide (j < i))) H) : rGT (.int i) (.int j) H Q := .inl ⟨i, j, rfl, rfl, h⟩
theorem gt_ss {i j : Str} (h : Q (.bl (decide (j.cps.toList < i.cps.toList))) H) : rGT (.str i) (.str j) H Q := .inr ⟨i, j, rfl, rfl, h⟩
theorem ge_ii {i j : Int} (h : Q (.bl (decide (j ≤ i))) H) : rGE (.int i) (.int j) H Q := .inl ⟨i, j, rfl, rfl, h⟩
theorem is_N (h : Q (.bl (decide (x = .non))) H) : rIS K x .non H Q := .inl ⟨rfl, h⟩
theorem is_T {m n : String} (h : Q (.bl (decide (m = n))) H) : rIS K (.ty m) (.ty n) H Q := .inr (.inl ⟨m, n, rfl, rfl, h⟩)
theorem is_B {b : Bool} (h : Q (.bl (decide (x = .bl b))) H) : rIS K x (.bl b) H Q := .inr (.inr ⟨b, rfl, h⟩)
theorem isn_N (h : Q (.bl (!decide (x = .non))) H) : rISN K x .non H Q := .inl ⟨rfl, h⟩
theorem isn_T {m n : String} (h : Q (.bl (!decide (m = n))) H) : rISN K (.ty m) (.ty n) H Q := .inr (.inl ⟨m, n, rfl, rfl, h⟩)
theorem isn_B {b : Bool} (h : Q (.bl (!decide (x = .bl b))) H) : rISN K x (.bl b) H Q := .inr (.inr ⟨b, rfl, h⟩)
theorem in_s {c : Nat} {z : Str} (h : Q (.bl (decide (c ∈ z.cps.toList))) H) : rINU K (.str ⟨#[c]⟩) (.str z) H Q := .inl ⟨c, z, rfl, rfl, h⟩
theorem nin_s {c : Nat} {z : Str} (h : Q (.bl (!decide (c ∈ z.cps.toList))) H) : rNINU K (.str ⟨#[c]⟩) (.str z) H Q := .inl ⟨c, z, rfl, rfl, h⟩
theorem ix_L {p : Addr} {xs : List V} {i : Int} (hs : SqL K H p xs) (ha : atI xs i = some v) (h : Q v H) : rIX K (.ref p) (.int i) H Q := .inl ⟨p, xs, i, v, rfl, rfl, hs, ha, h⟩
theorem ix_T {p : Addr} {xs : List V} {i : Int} (hs : SqT K H p xs) (ha : atI xs i = some v) (h : Q v H) : rIX K (.ref p) (.int i) H Q := .inr (.inl ⟨p, xs, i, v, rfl, rfl, hs, ha, h⟩)
theorem ix_S {z : Str} {i : Int} {c : Nat} (hl : z.length ≤ sizeLine) (ha : atI z.cps.toList i = some c) (h : Q (.str ⟨#[c]⟩) H) : rIX K (.str z) (.int i) H Q := .inr (.inr ⟨z, i, c, rfl, rfl, hl, ha, h⟩)
theorem sl_S {z : Str} {lo hi : Option Int} (hl : z.length ≤ sizeLine) (h : Q (.str (cutS z lo hi)) H) : rSL K (.str z) lo hi H Q := .inl ⟨z, rfl, hl, h⟩
theorem sl_L {p : Addr} {xs : List V} {lo hi : Option Int} (hs : SqL K H p xs) (h : ∀ l, H l = none → Q (.ref l) (upd H l (.lst (cutV xs lo hi)))) : rSL K (.ref p) lo hi H Q := .inr (.inl ⟨p, xs, rfl, hs, h⟩)
theorem i_i {i : Int} (h : Q (.int i) H) : rINT [.int i] H Q := .inl (.inl ⟨i, rfl, h⟩)
theorem i_b {b : Bool} (h : Q (.int (if b then 1 else 0)) H) : rINT [.bl b] H Q := .inl (.inr ⟨b, rfl, h⟩)
theorem i_s {a : Str} {n : Int} (ha : PySem.intText? a = some n) (hl : a.length ≤ 640) (h : Q (.int n) H) : rINT [.str a] H Q := .inr ⟨a, n, rfl, ha, hl, h⟩
theorem st_i {i : Int} (hl : i.natAbs.log2 < 1920) (h : Q (.str (toString i)) H) : rSTR [.int i] H Q := ⟨i, rfl, hl, h⟩
theorem ln_s {z : Str} (hl : z.length ≤ sizeLine) (h : Q (.int z.length) H) : rLEN K [.str z] H Q := .inl ⟨z, rfl, hl, h⟩
theorem ln_l {p : Addr} {xs : List V} (hs : SqL K H p xs) (h : Q (.int xs.length) H) : rLEN K [.ref p] H Q := .inr ⟨p, xs, rfl, .inl hs, h⟩
theorem ln_t {p : Addr} {xs : List V} (hs : SqT K H p xs) (h : Q (.int xs.length) H) : rLEN K [.ref p] H Q := .inr ⟨p, xs, rfl, .inr hs, h⟩
theorem ab_i {i : Int} (h : Q (.int (if i < 0 then -i else i)) H) : rABS [.int i] H Q := ⟨i, rfl, h⟩
theorem mx_ii {i j : Int} (h : Q (.int (if j > i then j else i)) H) : rMAX2 [.int i, .int j] H Q := ⟨i, j, rfl, h⟩
theorem mn_ii {i j : Int} (h : Q (.int (if j < i then j else i)) H) : rMIN2 [.int i, .int j] H Q := ⟨i, j, rfl, h⟩
theorem ty_N (h : Q (.ty "NoneType") H) : rTyp K [.non] H Q := ⟨_, _, rfl, .non, h⟩
theorem ty_B {b : Bool} (h : Q (.ty "bool") H) : rTyp K [.bl b] H Q := ⟨_, _, rfl, .bl b, h⟩
theorem ty_I {i : Int} (h : Q (.ty "int") H) : rTyp K [.int i] H Q := ⟨_, _, rfl, .int i, h⟩
theorem ty_S {s : Str} (h : Q (.ty "str") H) : rTyp K [.str s] H Q := ⟨_, _, rfl, .str s, h⟩
theorem ty_L {p : Addr} {xs : List V} (hs : SqL K H p xs) (h : Q (.ty "list") H) : rTyp K [.ref p] H Q := ⟨_, _, rfl, .lst hs, h⟩
theorem ty_T {p : Addr} {xs : List V} (hs : SqT K H p xs) (h : Q (.ty "tuple") H) : rTyp K [.ref p] H Q := ⟨_, _, rfl, .tup hs, h⟩
theorem ma_s {s : Str} (h : Q (.bl (Txt.isascii s)) H) : rM_isascii (.str s) [] H Q := ⟨s, rfl, rfl, True.intro, h⟩
theorem mp_s {s : Str} (h : Q (.bl (Txt.isprintable s)) H) : rM_isprintable (.str s) [] H Q := ⟨s, rfl, rfl, True.intro, h⟩
theorem mdg_s {s : Str} (h : Q (.bl (Txt.isdigit s)) H) : rM_isdigit (.str s) [] H Q := ⟨s, rfl, rfl, True.intro, h⟩
theorem mf_s {s u : Str} (h : Q (.int (Txt.find s u)) H) : rM_find (.str s) [.str u] H Q := ⟨s, u, rfl, rfl, h⟩
theorem al_b {p : Addr} {bs : List Bool} (hs : SqL K H p (bs.map V.bl)) (h : Q (.bl (bs.all id)) H) : rAll K [.ref p] H Q := ⟨p, bs, rfl, hs, h⟩
/-! statements -/
variable {n b k : St → Hp → Prop} {rt : VK} {p q s w : TS} {g : TG} {D : Ends}
theorem s_seq (h : p ⟨q ⟨n, rt, b, k⟩, rt, b, k⟩ σ H) : tSeq p q ⟨n, rt, b, k⟩ σ H := h
theorem s_asg (h : te σ H fun x H1 => g x σ H1 n) : tAsg te g ⟨n, rt, b, k⟩ σ H := h
theorem s_gn {i : Nat} {N : St → Hp → Prop} (h : N (σ.set i (some v)) H) : gName i v σ H N := h
theorem s_if (h : c σ H fun d H1 => if d = true then p D σ H1 else q D σ H1) : tIfS c p q D σ H := h
theorem s_ret (h : te σ H rt) : tRet te ⟨n, rt, b, k⟩ σ H := h
theorem s_retN (h : rt .non H) : tRetN ⟨n, rt, b, k⟩ σ H := h
theorem s_next (h : n σ H) : tNext ⟨n, rt, b, k⟩ σ H := h
theorem s_brk (h : b σ H) : tBreak ⟨n, rt, b, k⟩ σ H := h
theorem s_cont (h : k σ H) : tCont ⟨n, rt, b, k⟩ σ H := h
theorem s_drop (h : te σ H fun _ H1 => n σ H1) : tDrop te ⟨n, rt, b, k⟩ σ H := h
theorem s_par {i j : Nat} (h : tr σ H fun vs H1 => ∃ v w, vs = [v, w] ∧ n ((σ.set i (some v)).set j (some w)) H1) : tPar i j tr ⟨n, rt, b, k⟩ σ H := h
theorem s_par3 {i j l : Nat} (h : tr σ H fun vs H1 => ∃ u v w, vs = [u, v, w] ∧ n (((σ.set i (some u)).set j (some v)).set l (some w)) H1) : tPar3 i j l tr ⟨n, rt, b, k⟩ σ H := h
theorem x_gsub {to ti : TE} {t : TSet} {N : St → Hp → Prop} (h : to σ H fun o H1 => ti σ H1 fun i H2 => t o i v H2 fun H3 => N σ H3) : gSub to ti t v σ H N := h
theorem st_L {p : Addr} {xs : List V} {i : Int} {N : Hp → Prop} (hp : H p = some (.lst xs)) (h0 : 0 ≤ i) (h1 : i < (xs.length : Int)) (h : N (upd H p (.lst (xs.set i.toNat v)))) : rSetL (.ref p) (.int i) v H N := by
  refine ⟨p, xs, i, i.toNat, rfl, rfl, hp, ?_, h⟩
  unfold ixN
  rw [if_pos h0]
  first | rw [if_pos h1] | simp [h1]
theorem pop_L {p : Addr} {x : V} {xs : List V} (hp : H p = some (.lst (x :: xs))) (h : Q x (upd H p (.lst xs))) : rPOP (.ref p) [.int 0] H Q := by
  refine ⟨p, x :: xs, 0, 0, x, rfl, rfl, hp, by decide, by decide, ?_, rfl, h⟩
  simp [seqIndex?]
theorem w_while {c : TT} {tb : TS} (W : Nat → St → Hp → Prop) (m0 : Nat) (h0 : W m0 σ H) (hs : ∀ m σ H, W m σ H → c σ H fun d H1 => if d = true then ∃ N : St → Hp → Prop, (∀ σ' H', N σ' H' → ∃ m', m' < m ∧ W m' σ' H') ∧ tb ⟨N, rt, n, N⟩ σ H1 else n σ H1) : tWhile c tb ⟨n, rt, b, k⟩ σ H :=
  ⟨W, ⟨m0, h0⟩, hs⟩
/-! loops -/
def LoopW (J : It) (g : TG) (tb : TS) (n : St → Hp → Prop) (rt : VK) (σ : St) (H : Hp) : Prop := ∃ W : Nat → Nat → St → Hp → Prop, (∃ m, W 0 m σ H) ∧ ∀ i m σ H, W i m σ H →
  (J.stop i H ∧ n σ H) ∨ (J.go i H ∧ ∃ N : St → Hp → Prop, (∀ σ' H', N σ' H' → ∃ m', m' < m ∧ W (i + 1) m' σ' H') ∧ ∀ x H', J.yld i H x H' → g x σ H' fun σ2 H2 => tb ⟨N, rt, n, N⟩ σ2 H2)
def ForR1 (g : TG) (tb : TS) (n : St → Hp → Prop) (rt : VK) (σ : St) (vs : List V) (H : Hp) : Prop := ∃ j : Int, vs = [.int j] ∧ -(2 ^ 62) ≤ j ∧ j < 2 ^ 62 ∧ LoopW (Itr 0 j.toNat) g tb n rt σ H
def ForR2 (g : TG) (tb : TS) (n : St → Hp → Prop) (rt : VK) (σ : St) (vs : List V) (H : Hp) : Prop := ∃ i j : Int, vs = [.int i, .int j] ∧ (-(2 ^ 62) ≤ i ∧ i < 2 ^ 62 ∧ -(2 ^ 62) ≤ j ∧ j < 2 ^ 62) ∧ LoopW (Itr i (j - i).toNat) g tb n rt σ H
def ForL (K : PySem.W.Frag) (g : TG) (tb : TS) (n : St → Hp → Prop) (rt : VK) (σ : St) (x : V) (H : Hp) : Prop := ∃ a, x = .ref a ∧ (∃ xs, SqL K H a xs) ∧ LoopW (Itl K a) g tb n rt σ H
def ForT (K : PySem.W.Frag) (g : TG) (tb : TS) (n : St → Hp → Prop) (rt : VK) (σ : St) (x : V) (H : Hp) : Prop := ∃ a, x = .ref a ∧ (∃ xs, SqT K H a xs) ∧ LoopW (Itt K a) g tb n rt σ H
def ForS (g : TG) (tb : TS) (n : St → Hp → Prop) (rt : VK) (σ : St) (x : V) (H : Hp) : Prop := ∃ z, x = .str z ∧ LoopW (Its z) g tb n rt σ H
theorem f_r1 (h : tr σ H fun vs H1 => ForR1 g p n rt σ vs H1) : tFor (iRng1 tr) g p ⟨n, rt, b, k⟩ σ H := h
theorem f_r2 (h : tr σ H fun vs H1 => ForR2 g p n rt σ vs H1) : tFor (iRng2 tr) g p ⟨n, rt, b, k⟩ σ H := h
theorem f_l (h : te σ H fun x H1 => ForL K g p n rt σ x H1) : tFor (iList K te) g p ⟨n, rt, b, k⟩ σ H := h
theorem f_t (h : te σ H fun x H1 => ForT K g p n rt σ x H1) : tFor (iTup K te) g p ⟨n, rt, b, k⟩ σ H := h
theorem f_s (h : te σ H fun x H1 => ForS g p n rt σ x H1) : tFor (iStr te) g p ⟨n, rt, b, k⟩ σ H := h
theorem loopR {lo : Int} {m : Nat} (Pv : Nat → St → Hp → Prop) (h0 : Pv 0 σ H) (hs : ∀ i σ H, i < m → Pv i σ H → g (.int (lo + i)) σ H fun σ2 H2 => p ⟨Pv (i + 1), rt, n, Pv (i + 1)⟩ σ2 H2) (hd : ∀ σ H, Pv m σ H → n σ H) : LoopW (Itr lo m) g p n rt σ H := for_range (D := ⟨n, rt, n, n⟩) Pv h0 hs hd
theorem loopL {a : Addr} {xs : List V} (Pv : Nat → St → Hp → Prop) (h0 : Pv 0 σ H) (hl : ∀ i σ H, i ≤ xs.length → Pv i σ H → SqL K H a xs) (hs : ∀ i x σ H, xs[i]? = some x → Pv i σ H → g x σ H fun σ2 H2 => p ⟨Pv (i + 1), rt, n, Pv (i + 1)⟩ σ2 H2) (hd : ∀ σ H, Pv xs.length σ H → n σ H) : LoopW (Itl K a) g p n rt σ H := for_list (D := ⟨n, rt, n, n⟩) Pv h0 hl hs hd
theorem loopT {a : Addr} {xs : List V} (Pv : Nat → St → Hp → Prop) (h0 : Pv 0 σ H) (hl : ∀ i σ H, i ≤ xs.length → Pv i σ H → SqT K H a xs) (hs : ∀ i x σ H, xs[i]? = some x → Pv i σ H → g x σ H fun σ2 H2 => p ⟨Pv (i + 1), rt, n, Pv (i + 1)⟩ σ2 H2) (hd : ∀ σ H, Pv xs.length σ H → n σ H) : LoopW (Itt K a) g p n rt σ H := for_tup (D := ⟨n, rt, n, n⟩) Pv h0 hl hs hd
theorem for1_mk {j : Int} (hj : -(2 ^ 62) ≤ j) (hj2 : j < 2 ^ 62) (Pv : Nat → St → Hp → Prop) (h0 : Pv 0 σ H) (hs : ∀ (i : Nat) σ H, i < j.toNat → Pv i σ H → g (.int (i : Int)) σ H fun σ2 H2 => p ⟨Pv (i + 1), rt, n, Pv (i + 1)⟩ σ2 H2) (hd : ∀ σ H, Pv j.toNat σ H → n σ H) : ForR1 g p n rt σ [.int j] H :=
  ⟨j, rfl, hj, hj2, loopR Pv h0 (fun i σ H hi hp => by rw [Int.zero_add]; exact hs i σ H hi hp) hd⟩
theorem for2_mk {lo j : Int} (hj : -(2 ^ 62) ≤ lo ∧ lo < 2 ^ 62 ∧ -(2 ^ 62) ≤ j ∧ j < 2 ^ 62) (Pv : Nat → St → Hp → Prop) (h0 : Pv 0 σ H) (hs : ∀ (i : Nat) σ H, i < (j - lo).toNat → Pv i σ H → g (.int (lo + (i : Int))) σ H fun σ2 H2 => p ⟨Pv (i + 1), rt, n, Pv (i + 1)⟩ σ2 H2) (hd : ∀ σ H, Pv (j - lo).toNat σ H → n σ H) : ForR2 g p n rt σ [.int lo, .int j] H :=
  ⟨lo, j, rfl, hj, loopR Pv h0 hs hd⟩
theorem forL_mk {a : Addr} {xs : List V} (hx : SqL K H a xs) (Pv : Nat → St → Hp → Prop) (h0 : Pv 0 σ H) (hl : ∀ i σ H, i ≤ xs.length → Pv i σ H → SqL K H a xs) (hs : ∀ i x σ H, xs[i]? = some x → Pv i σ H → g x σ H fun σ2 H2 => p ⟨Pv (i + 1), rt, n, Pv (i + 1)⟩ σ2 H2) (hd : ∀ σ H, Pv xs.length σ H → n σ H) : ForL K g p n rt σ (.ref a) H := ⟨a, rfl, ⟨xs, hx⟩, loopL Pv h0 hl hs hd⟩
theorem forT_mk {a : Addr} {xs : List V} (hx : SqT K H a xs) (Pv : Nat → St → Hp → Prop) (h0 : Pv 0 σ H) (hl : ∀ i σ H, i ≤ xs.length → Pv i σ H → SqT K H a xs) (hs : ∀ i x σ H, xs[i]? = some x → Pv i σ H → g x σ H fun σ2 H2 => p ⟨Pv (i + 1), rt, n, Pv (i + 1)⟩ σ2 H2) (hd : ∀ σ H, Pv xs.length σ H → n σ H) : ForT K g p n rt σ (.ref a) H := ⟨a, rfl, ⟨xs, hx⟩, loopT Pv h0 hl hs hd⟩
/-! comprehensions -/
def LcW (J : It) (g : TG) (tt : TT) (te : TE) (vs : List Nat) (σ : St) (Q : VK) (H1 : Hp) : Prop := ∀ D, H1 D = none → ∃ W : Nat → Nat → Hp → Prop, (∃ m, W 0 m (upd H1 D (.lst []))) ∧ ∀ i m H, W i m H →
  (J.stop i H ∧ Q (.ref D) H) ∨ (J.go i H ∧ ∃ Nx : Hp → Prop, (∀ H', Nx H' → ∃ m', m' < m ∧ W (i + 1) m' H') ∧ ∀ x H', J.yld i H x H' → g x (wipe σ vs) H' fun σ2 H2 => wipe σ2 vs = wipe σ vs ∧ tt σ2 H2 fun b H3 =>
    if b = true then te σ2 H3 fun y H4 => ∃ acc, H4 D = some (.lst acc) ∧ acc.length < sizeLine ∧ Nx (upd H4 D (.lst (acc ++ [y]))) else Nx H3)
def LcR1 (g : TG) (tt : TT) (te : TE) (ws : List Nat) (σ : St) (Q : VK) (vs : List V) (H : Hp) : Prop := ∃ j : Int, vs = [.int j] ∧ -(2 ^ 62) ≤ j ∧ j < 2 ^ 62 ∧ LcW (Itr 0 j.toNat) g tt te ws σ Q H
def LcR2 (g : TG) (tt : TT) (te : TE) (ws : List Nat) (σ : St) (Q : VK) (vs : List V) (H : Hp) : Prop := ∃ i j : Int, vs = [.int i, .int j] ∧ (-(2 ^ 62) ≤ i ∧ i < 2 ^ 62 ∧ -(2 ^ 62) ≤ j ∧ j < 2 ^ 62) ∧ LcW (Itr i (j - i).toNat) g tt te ws σ Q H
def LcL (K : PySem.W.Frag) (g : TG) (tt : TT) (te : TE) (ws : List Nat) (σ : St) (Q : VK) (x : V) (H : Hp) : Prop := ∃ a, x = .ref a ∧ (∃ xs, SqL K H a xs) ∧ LcW (Itl K a) g tt te ws σ Q H
def LcT (K : PySem.W.Frag) (g : TG) (tt : TT) (te : TE) (ws : List Nat) (σ : St) (Q : VK) (x : V) (H : Hp) : Prop := ∃ a, x = .ref a ∧ (∃ xs, SqT K H a xs) ∧ LcW (Itt K a) g tt te ws σ Q H
def LcS (g : TG) (tt : TT) (te : TE) (ws : List Nat) (σ : St) (Q : VK) (x : V) (H : Hp) : Prop := ∃ z, x = .str z ∧ LcW (Its z) g tt te ws σ Q H
variable {ws : List Nat}
theorem c_r1 (h : tr σ H fun vs H1 => LcR1 g t te ws σ Q vs H1) : tLc (iRng1 tr) g t te ws σ H Q := h
theorem c_r2 (h : tr σ H fun vs H1 => LcR2 g t te ws σ Q vs H1) : tLc (iRng2 tr) g t te ws σ H Q := h
theorem c_l (h : ta σ H fun x H1 => LcL K g t te ws σ Q x H1) : tLc (iList K ta) g t te ws σ H Q := h
theorem c_t (h : ta σ H fun x H1 => LcT K g t te ws σ Q x H1) : tLc (iTup K ta) g t te ws σ H Q := h
theorem c_s (h : ta σ H fun x H1 => LcS g t te ws σ Q x H1) : tLc (iStr ta) g t te ws σ H Q := h
theorem lcR1_mk {j : Int} (hj : -(2 ^ 62) ≤ j) (hj2 : j < 2 ^ 62) (Pv : Addr → Nat → Hp → Prop) (h0 : ∀ D, H D = none → Pv D 0 (upd H D (.lst [])))
    (hs : ∀ D (i : Nat) H', H D = none → i < j.toNat → Pv D i H' → g (.int (i : Int)) (wipe σ ws) H' fun σ2 H2 => wipe σ2 ws = wipe σ ws ∧ t σ2 H2 fun b H3 => if b = true then te σ2 H3 fun y H4 => ∃ acc, H4 D = some (.lst acc) ∧ acc.length < sizeLine ∧ Pv D (i + 1) (upd H4 D (.lst (acc ++ [y]))) else Pv D (i + 1) H3)
    (hd : ∀ D H', H D = none → Pv D j.toNat H' → Q (.ref D) H') : LcR1 g t te ws σ Q [.int j] H :=
  ⟨j, rfl, hj, hj2, fun D hD => lc_range (lo := 0) (n := j.toNat) (Pv D) (h0 D hD) (fun i H hi hp => by rw [Int.zero_add]; exact hs D i H hD hi hp) (fun H' hp => hd D H' hD hp)⟩
theorem lcR2_mk {lo j : Int} (hj : -(2 ^ 62) ≤ lo ∧ lo < 2 ^ 62 ∧ -(2 ^ 62) ≤ j ∧ j < 2 ^ 62) (Pv : Addr → Nat → Hp → Prop) (h0 : ∀ D, H D = none → Pv D 0 (upd H D (.lst [])))
    (hs : ∀ D (i : Nat) H', H D = none → i < (j - lo).toNat → Pv D i H' → g (.int (lo + (i : Int))) (wipe σ ws) H' fun σ2 H2 => wipe σ2 ws = wipe σ ws ∧ t σ2 H2 fun b H3 => if b = true then te σ2 H3 fun y H4 => ∃ acc, H4 D = some (.lst acc) ∧ acc.length < sizeLine ∧ Pv D (i + 1) (upd H4 D (.lst (acc ++ [y]))) else Pv D (i + 1) H3)
    (hd : ∀ D H', H D = none → Pv D (j - lo).toNat H' → Q (.ref D) H') : LcR2 g t te ws σ Q [.int lo, .int j] H :=
  ⟨lo, j, rfl, hj, fun D hD => lc_range (lo := lo) (n := (j - lo).toNat) (Pv D) (h0 D hD) (fun i H hi hp => hs D i H hD hi hp) (fun H' hp => hd D H' hD hp)⟩
theorem lcL_mk {a : Addr} {xs : List V} (hx : SqL K H a xs) (Pv : Addr → Nat → Hp → Prop) (h0 : ∀ D, H D = none → Pv D 0 (upd H D (.lst []))) (hl : ∀ D i H', H D = none → i ≤ xs.length → Pv D i H' → SqL K H' a xs)
    (hs : ∀ D i x H', H D = none → xs[i]? = some x → Pv D i H' → g x (wipe σ ws) H' fun σ2 H2 => wipe σ2 ws = wipe σ ws ∧ t σ2 H2 fun b H3 => if b = true then te σ2 H3 fun y H4 => ∃ acc, H4 D = some (.lst acc) ∧ acc.length < sizeLine ∧ Pv D (i + 1) (upd H4 D (.lst (acc ++ [y]))) else Pv D (i + 1) H3)
    (hd : ∀ D H', H D = none → Pv D xs.length H' → Q (.ref D) H') : LcL K g t te ws σ Q (.ref a) H :=
  ⟨a, rfl, ⟨xs, hx⟩, fun D hD => lc_list (xs := xs) (Pv D) (h0 D hD) (fun i H hi hp => hl D i H hD hi hp) (fun i x H hi hp => hs D i x H hD hi hp) (fun H' hp => hd D H' hD hp)⟩
theorem lcT_mk {a : Addr} {xs : List V} (hx : SqT K H a xs) (Pv : Addr → Nat → Hp → Prop) (h0 : ∀ D, H D = none → Pv D 0 (upd H D (.lst []))) (hl : ∀ D i H', H D = none → i ≤ xs.length → Pv D i H' → SqT K H' a xs)
    (hs : ∀ D i x H', H D = none → xs[i]? = some x → Pv D i H' → g x (wipe σ ws) H' fun σ2 H2 => wipe σ2 ws = wipe σ ws ∧ t σ2 H2 fun b H3 => if b = true then te σ2 H3 fun y H4 => ∃ acc, H4 D = some (.lst acc) ∧ acc.length < sizeLine ∧ Pv D (i + 1) (upd H4 D (.lst (acc ++ [y]))) else Pv D (i + 1) H3)
    (hd : ∀ D H', H D = none → Pv D xs.length H' → Q (.ref D) H') : LcT K g t te ws σ Q (.ref a) H :=
  ⟨a, rfl, ⟨xs, hx⟩, fun D hD => lc_tup (xs := xs) (Pv D) (h0 D hD) (fun i H hi hp => hl D i H hD hi hp) (fun i x H hi hp => hs D i x H hD hi hp) (fun H' hp => hd D H' hD hp)⟩
theorem s_cut (M : St → Hp → Prop) (h : p ⟨M, rt, b, k⟩ σ H) (hq : ∀ σ' H', M σ' H' → q ⟨n, rt, b, k⟩ σ' H') : Evl.tCut p q ⟨n, rt, b, k⟩ σ H := ⟨M, h, hq⟩
theorem s_p2 {P : V → V → Prop} (h : P x y) : ∃ v w, [x, y] = [v, w] ∧ P v w := ⟨x, y, rfl, h⟩
theorem s_p3 {P : V → V → V → Prop} (h : P x y z) : ∃ u v w, [x, y, z] = [u, v, w] ∧ P u v w := ⟨x, y, z, rfl, h⟩
theorem iteTd {p : Prop} [Decidable p] {A B : Prop} (h : p) (q : A) : if decide p = true then A else B := by
  rw [decide_eq_true h]
  exact iteT q
theorem iteFd {p : Prop} [Decidable p] {A B : Prop} (h : ¬ p) (q : B) : if decide p = true then A else B := by
  rw [decide_eq_false h]
  exact iteF q
theorem iteNt {A B : Prop} (q : B) : if (!true) = true then A else B := iteF q
theorem iteNf {A B : Prop} (q : A) : if (!false) = true then A else B := iteT q
theorem iteNd {p : Prop} [Decidable p] {A B : Prop} (h : p) (q : B) : if (!decide p) = true then A else B := by
  rw [decide_eq_true h]
  exact iteF q
theorem iteNdF {p : Prop} [Decidable p] {A B : Prop} (h : ¬ p) (q : A) : if (!decide p) = true then A else B := by
  rw [decide_eq_false h]
  exact iteT q
theorem ite2' {c : Bool} {A B : Prop} (h1 : c = true → A) (h2 : c = false → B) : if c = true then A else B := by
  cases c with
  | true => exact h1 rfl
  | false => exact h2 rfl
end
end My

set_option Elab.async false
set_option linter.all false
set_option maxRecDepth 100000
set_option maxHeartbeats 400000
/-! ### texts as lists of codes; heaps -/
namespace My
open PySem PySem.Spec PyProof.Rows L2
abbrev S (l : List Nat) : Str := SX.S l
theorem S_cps (l : List Nat) : (S l).cps.toList = l := rfl
theorem S_len (l : List Nat) : (S l).length = l.length := SX.S_len l
theorem S_eta (z : Str) : z = S z.cps.toList := by
  rcases z with ⟨⟨l⟩⟩
  rfl
theorem S_app (a b : List Nat) : S a ++ S b = S (a ++ b) := by
  show (⟨a.toArray ++ b.toArray⟩ : Str) = ⟨(a ++ b).toArray⟩
  simp
theorem S_inj {a b : List Nat} (h : S a = S b) : a = b := congrArg (fun z : Str => z.cps.toList) h
theorem S_eq (a b : List Nat) : decide (S a = S b) = decide (a = b) := by
  by_cases h : a = b
  · subst h; simp
  · have h2 : ¬ S a = S b := fun e => h (S_inj e)
    rw [decide_eq_false h, decide_eq_false h2]
theorem S_one (c : Nat) : (⟨#[c]⟩ : Str) = S [c] := rfl
/-! slices -/
theorem cut_from (l : List Nat) (a : Nat) : cutS (S l) (some (a : Int)) none = S (l.drop a) := by
  unfold cutS
  rw [S_len, HT.sIx_nat, HT.sIx_none, S_cps]
  apply congrArg S
  rcases Nat.le_total a l.length with h | h
  · rw [Nat.min_eq_left h]
    exact List.take_of_length_le (by rw [List.length_drop]; exact Nat.le_refl _)
  · rw [Nat.min_eq_right h, List.drop_eq_nil_of_le h]
    simp
theorem cut_to (l : List Nat) (b : Nat) : cutS (S l) none (some (b : Int)) = S (l.take b) := by
  unfold cutS
  rw [S_len, HT.sIx_nat, HT.sIx_none, S_cps]
  apply congrArg S
  rw [List.drop_zero, Nat.sub_zero]
  rcases Nat.le_total b l.length with h | h
  · rw [Nat.min_eq_left h]
  · rw [Nat.min_eq_right h, List.take_of_length_le (Nat.le_refl _), List.take_of_length_le h]
theorem cut_mid (l : List Nat) (a b : Nat) : cutS (S l) (some (a : Int)) (some (b : Int)) = S ((l.take b).drop a) := by
  unfold cutS
  rw [S_len, HT.sIx_nat, HT.sIx_nat, S_cps]
  apply congrArg S
  rw [List.drop_take]
  rcases Nat.le_total a l.length with h | h
  · rw [Nat.min_eq_left h]
    rcases Nat.le_total b l.length with h2 | h2
    · rw [Nat.min_eq_left h2]
    · rw [Nat.min_eq_right h2, List.take_of_length_le (by rw [List.length_drop]; exact Nat.le_refl _), List.take_of_length_le (by rw [List.length_drop]; omega)]
  · rw [Nat.min_eq_right h, List.drop_eq_nil_of_le h]
    simp
theorem cut_fromI (l : List Nat) {a : Int} (h : 0 ≤ a) : cutS (S l) (some a) none = S (l.drop a.toNat) := by
  have e := cut_from l a.toNat
  rwa [Int.toNat_of_nonneg h] at e
theorem cut_toI (l : List Nat) {a : Int} (h : 0 ≤ a) : cutS (S l) none (some a) = S (l.take a.toNat) := by
  have e := cut_to l a.toNat
  rwa [Int.toNat_of_nonneg h] at e
theorem cut_midI (l : List Nat) {a b : Int} (h : 0 ≤ a) (h2 : 0 ≤ b) : cutS (S l) (some a) (some b) = S ((l.take b.toNat).drop a.toNat) := by
  have e := cut_mid l a.toNat b.toNat
  rwa [Int.toNat_of_nonneg h, Int.toNat_of_nonneg h2] at e
theorem repS_S (l : List Nat) (k : Int) : repS (S l) k = S (List.replicate k.toNat l).flatten := rfl
theorem join_S (ys : List (List Nat)) : Txt.join (S []) (ys.map S) = S ys.flatten := by
  rw [SX.join_S]
  apply congrArg S
  induction ys with
  | nil => rfl
  | cons y ys ih =>
    cases ys with
    | nil => simp [TL.joinL]
    | cons z zs =>
      have e : TL.joinL [] (y :: z :: zs) = y ++ ([] ++ TL.joinL [] (z :: zs)) := by first | rfl | simp [TL.joinL]
      rw [e, ih]
      rfl
/-! an item at a place -/
theorem at_nat {α : Type} {xs : List α} {i : Int} {v : α} (h0 : 0 ≤ i) (h : xs[i.toNat]? = some v) : atI xs i = some v := by
  have e := atI_nat h
  rwa [Int.toNat_of_nonneg h0] at e
theorem at_in {α : Type} {xs : List α} {i : Int} (h0 : 0 ≤ i) (h : i < (xs.length : Int)) : atI xs i = some (xs[i.toNat]'(by omega)) := at_nat h0 (List.getElem?_eq_getElem (by omega))
/-! leaves over S -/
section
variable {K : PySem.W.Frag} {H : Hp} {Q : VK} {l m : List Nat} {a b : Int}
theorem big_line {n : Nat} (h : n ≤ 1000000) : n ≤ sizeLine := Nat.le_trans h (by decide)
theorem sl_to (ha : 0 ≤ a) (hl : l.length ≤ 1000000) (q : Q (.str (S (l.take a.toNat))) H) : rSL K (.str (S l)) none (some a) H Q := sl_S (by rw [S_len]; exact big_line hl) (by rw [cut_toI l ha]; exact q)
theorem sl_from (ha : 0 ≤ a) (hl : l.length ≤ 1000000) (q : Q (.str (S (l.drop a.toNat))) H) : rSL K (.str (S l)) (some a) none H Q := sl_S (by rw [S_len]; exact big_line hl) (by rw [cut_fromI l ha]; exact q)
theorem sl_mid (ha : 0 ≤ a) (hb : 0 ≤ b) (hl : l.length ≤ 1000000) (q : Q (.str (S ((l.take b.toNat).drop a.toNat))) H) : rSL K (.str (S l)) (some a) (some b) H Q := sl_S (by rw [S_len]; exact big_line hl) (by rw [cut_midI l ha hb]; exact q)
theorem a_SS (hl : l.length + m.length ≤ 1000000) (q : Q (.str (S (l ++ m))) H) : rADD K (.str (S l)) (.str (S m)) H Q := a_ss (by rw [S_len, S_len]; exact big_line hl) (by rw [S_app]; exact q)
theorem ln_S (hl : l.length ≤ 1000000) (q : Q (.int l.length) H) : rLEN K [.str (S l)] H Q := ln_s (by rw [S_len]; exact big_line hl) (by rw [S_len]; exact q)
theorem ix_SS (h0 : 0 ≤ a) (h1 : a < (l.length : Int)) (hl : l.length ≤ 1000000) (q : ∀ c, l[a.toNat]? = some c → Q (.str (S [c])) H) : rIX K (.str (S l)) (.int a) H Q :=
  ix_S (by rw [S_len]; exact big_line hl) (at_in h0 h1) (q _ (List.getElem?_eq_getElem (by omega)))
theorem e_SS (q : Q (.bl (decide (l = m))) H) : rEQ K (.str (S l)) (.str (S m)) H Q := e_ss (by rw [S_eq]; exact q)
theorem ne_SS (q : Q (.bl (!decide (l = m))) H) : rNE K (.str (S l)) (.str (S m)) H Q := ne_ss (by rw [S_eq]; exact q)
theorem m_SI (h1 : a < 2 ^ 40) (h0 : 0 ≤ a) (hl : l.length * a.toNat ≤ 1000000) (q : Q (.str (S (List.replicate a.toNat l).flatten)) H) : rMUL K (.str (S l)) (.int a) H Q := m_si (by omega) (by omega) (by rw [S_len]; exact big_line hl) q
theorem jn_0 {p : Addr} {ys : List (List Nat)} (hp : SqL K H p ((ys.map S).map V.str)) (hl : ys.flatten.length ≤ 1000000) (q : Q (.str (S ys.flatten)) H) : rJoin K (.str (S [])) [.ref p] H Q := by
  refine ⟨S [], p, ys.map S, rfl, rfl, .inl hp, ?_, by rw [join_S]; exact q⟩
  have e : ((ys.map S).map (·.length)).sum = ys.flatten.length := by
    rw [List.length_flatten, List.map_map]
    apply congrArg List.sum
    exact List.map_congr_left fun l _ => S_len l
  rw [e, S_len]
  exact Nat.le_trans (by simpa using hl) (by decide)
end
/-! printing ASCII -/
def isT (l : List Nat) : Bool := l.all fun c => decide (32 ≤ c) && decide (c ≤ 126)
theorem printable_lt {c : Nat} (h : c < 128) : Unicode.isPrintable c = (decide (32 ≤ c) && decide (c ≤ 126)) := by
  have h2 : ∀ c : _root_.Fin 128, Unicode.isPrintable c.val = (decide (32 ≤ c.val) && decide (c.val ≤ 126)) := by decide +kernel
  exact h2 ⟨c, h⟩
theorem digit_lt {c : Nat} (h : c < 128) : Unicode.isDigit c = (decide (48 ≤ c) && decide (c ≤ 57)) := by
  have h2 : ∀ c : _root_.Fin 128, Unicode.isDigit c.val = (decide (48 ≤ c.val) && decide (c.val ≤ 57)) := by decide +kernel
  exact h2 ⟨c, h⟩
theorem is_text_eq (l : List Nat) : (Txt.isascii (S l) && Txt.isprintable (S l)) = isT l := by
  unfold Txt.isascii Txt.isprintable isT
  rw [← Array.all_toList, ← Array.all_toList, S_cps]
  induction l with
  | nil => rfl
  | cons c l ih =>
    simp only [List.all_cons]
    rw [← ih]
    by_cases h : c < 128
    · rw [printable_lt h, decide_eq_true h]
      cases (decide (32 ≤ c) && decide (c ≤ 126)) <;> cases (l.all fun x => decide (x < 128)) <;> cases (l.all Unicode.isPrintable) <;> rfl
    · rw [decide_eq_false h]
      have h2 : (decide (32 ≤ c) && decide (c ≤ 126)) = false := by
        rw [decide_eq_false (show ¬ c ≤ 126 by omega), Bool.and_false]
      rw [h2]
      rfl
def isD (l : List Nat) : Bool := l.all fun c => decide (48 ≤ c) && decide (c ≤ 57)
theorem isT_mem {l : List Nat} (h : isT l = true) {c : Nat} (hc : c ∈ l) : 32 ≤ c ∧ c ≤ 126 := by
  have z := List.all_eq_true.mp h c hc
  rw [Bool.and_eq_true, decide_eq_true_eq, decide_eq_true_eq] at z
  exact z
theorem isT_of {l : List Nat} (h : ∀ c ∈ l, 32 ≤ c ∧ c ≤ 126) : isT l = true := List.all_eq_true.mpr fun c hc => by
  rw [Bool.and_eq_true, decide_eq_true_eq, decide_eq_true_eq]
  exact h c hc
theorem isT_app {a b : List Nat} : isT (a ++ b) = (isT a && isT b) := List.all_append
theorem isT_take {a : List Nat} (n : Nat) (h : isT a = true) : isT (a.take n) = true := isT_of fun _ hc => isT_mem h (List.mem_of_mem_take hc)
theorem isT_drop {a : List Nat} (n : Nat) (h : isT a = true) : isT (a.drop n) = true := isT_of fun _ hc => isT_mem h (List.mem_of_mem_drop hc)
theorem isdigit_eq {l : List Nat} (h : isT l = true) : Txt.isdigit (S l) = (decide (l ≠ []) && isD l) := by
  unfold Txt.isdigit isD
  rw [← Array.all_toList, S_cps, S_len]
  have e : l.all Unicode.isDigit = l.all fun c => decide (48 ≤ c) && decide (c ≤ 57) := by
    rw [Bool.eq_iff_iff, List.all_eq_true, List.all_eq_true]
    constructor
    · intro z c hc
      rw [← digit_lt (by have := isT_mem h hc; omega)]
      exact z c hc
    · intro z c hc
      rw [digit_lt (by have := isT_mem h hc; omega)]
      exact z c hc
  rw [e]
  cases l with
  | nil => rfl
  | cons c l => simp
/-! lists of texts, of numbers -/
def TxtAll (n : Nat) (xs : List V) : Prop := ∀ x ∈ xs, ∃ l : List Nat, l.length ≤ n ∧ isT l = true ∧ x = V.str (S l)
theorem txt_nil {n : Nat} : TxtAll n [] := fun _ h => by cases h
theorem txt_cons {n : Nat} {l : List Nat} {xs : List V} (h1 : l.length ≤ n) (h2 : isT l = true) (h : TxtAll n xs) : TxtAll n (.str (S l) :: xs) := fun x hx => by
  rcases List.mem_cons.mp hx with rfl | hx
  · exact ⟨l, h1, h2, rfl⟩
  · exact h x hx
theorem txt_app {n : Nat} {xs ys : List V} (h1 : TxtAll n xs) (h2 : TxtAll n ys) : TxtAll n (xs ++ ys) := fun x hx => (List.mem_append.mp hx).elim (h1 x) (h2 x)
theorem ix_txt {K : PySem.W.Frag} {H : Hp} {Q : VK} {p : Addr} {zs : List V} {n : Nat} {i : Int} (hp : SqL K H p zs) (ha : TxtAll n zs) (h0 : 0 ≤ i) (h1 : i < (zs.length : Int)) (q : ∀ l : List Nat, l.length ≤ n → isT l = true → Q (.str (S l)) H) : rIX K (.ref p) (.int i) H Q := by
  refine ix_L hp (at_in h0 h1) ?_
  have hi : i.toNat < zs.length := by omega
  obtain ⟨l, a, b, e⟩ := ha zs[i.toNat] (List.getElem_mem hi)
  rw [e]
  exact q l a b
def IntAll (n : Nat) (xs : List V) : Prop := ∀ x ∈ xs, ∃ z : Nat, z < n ∧ x = V.int z
theorem int_nil {n : Nat} : IntAll n [] := fun _ h => by cases h
theorem int_cons {n : Nat} {i : Int} {xs : List V} (h0 : 0 ≤ i) (h1 : i < (n : Int)) (h : IntAll n xs) : IntAll n (.int i :: xs) := fun x hx => by
  rcases List.mem_cons.mp hx with rfl | hx
  · exact ⟨i.toNat, by omega, by rw [Int.toNat_of_nonneg h0]⟩
  · exact h x hx
theorem ix_int {K : PySem.W.Frag} {H : Hp} {Q : VK} {p : Addr} {zs : List V} {n : Nat} {i : Int} (hp : SqL K H p zs) (ha : IntAll n zs) (h0 : 0 ≤ i) (h1 : i < (zs.length : Int)) (q : ∀ z : Nat, z < n → Q (.int z) H) : rIX K (.ref p) (.int i) H Q := by
  refine ix_L hp (at_in h0 h1) ?_
  have hi : i.toNat < zs.length := by omega
  obtain ⟨z, a, e⟩ := ha zs[i.toNat] (List.getElem_mem hi)
  rw [e]
  exact q z a
/-! heaps -/
theorem same_upd {H : Hp} {p : Addr} {o : HO} (h : H p = none) : Same H (upd H p o) := fun b x e => by
  rw [upd_ne (ne_of_none e h)]
  exact e
theorem same_mut {R H : Hp} {p : Addr} {o : HO} (e : Same R H) (h : R p = none) : Same R (upd H p o) := fun a u ha => by
  rw [upd_ne (ne_of_none ha h)]
  exact e a u ha
theorem same_sqt {K : PySem.W.Frag} {H H' : Hp} {a : Addr} {xs : List V} (e : Same H H') (h : SqT K H a xs) : SqT K H' a xs := by
  rcases h with (h | ⟨o, h⟩) | h
  · exact .inl (.inl (e _ _ h))
  · exact .inl (.inr ⟨o, e _ _ h⟩)
  · exact .inr h
theorem same_new {R H : Hp} {p : Addr} {o : HO} (e : Same R H) (h : H p = none) : Same R (upd H p o) := e.trans (same_upd h)
theorem lst_of {K : PySem.W.Frag} {H : Hp} {a : Addr} {xs : List V} (h : H a = some (.lst xs)) : SqL K H a xs := .inl (.inl h)
theorem tup_of {K : PySem.W.Frag} {H : Hp} {a : Addr} {xs : List V} (h : H a = some (.tup xs)) : SqT K H a xs := .inl (.inl h)
mutual
theorem dp_mono {K : PySem.W.Frag} {H H' : Hp} (e : Same H H') : ∀ (d : PyData) (v : V), Dp K H v d → Dp K H' v d
  | _, _, .non => .non
  | _, _, .bl b => .bl b
  | _, _, .int i => .int i
  | _, _, .str x => .str x
  | .list ds, _, .lst h a => .lst (e.seq h) (dpAll_mono e ds _ a)
  | .tuple ds, _, .tup h a => .tup (same_sqt e h) (dpAll_mono e ds _ a)
theorem dpAll_mono {K : PySem.W.Frag} {H H' : Hp} (e : Same H H') : ∀ (ds : List PyData) (vs : List V), DpAll K H vs ds → DpAll K H' vs ds
  | _, _, .nil => .nil
  | d :: ds, v :: vs, .cons h t => .cons (dp_mono e d v h) (dpAll_mono e ds vs t)
end
theorem ne_new {H : Hp} {a p : Addr} {o : HO} (h : H a = some o) (hp : H p = none) : p ≠ a := fun e => by
  subst e
  rw [hp] at h
  cases h
end My

set_option Elab.async false
set_option linter.all false
set_option maxRecDepth 100000
set_option maxHeartbeats 400000
/-! ### data; isinstance; a comprehension over a range with a step -/
namespace My
open PySem PySem.Spec PyProof.Rows L2
def tyName : PyData → String
  | .none => "NoneType"
  | .bool _ => "bool"
  | .int _ => "int"
  | .str _ => "str"
  | .list _ => "list"
  | .tuple _ => "tuple"
  | .dict _ => "dict"
theorem tyx_l {K : PySem.W.Frag} {H : Hp} {a : Addr} {xs : List V} (h : SqL K H a xs) : TyX K H (.ref a) (.type "list") := by
  rcases h with (h | ⟨o, h⟩) | h
  · exact .base (.lst h)
  · exact .base (.frz h)
  · obtain ⟨o, its, n, h1, h2, _⟩ := h
    exact .kList h1 h2
theorem tyx_t {K : PySem.W.Frag} {H : Hp} {a : Addr} {xs : List V} (h : SqT K H a xs) : TyX K H (.ref a) (.type "tuple") := by
  rcases h with (h | ⟨o, h⟩) | h
  · exact .base (.tup h)
  · exact .fTuple h
  · obtain ⟨o, its, n, h1, h2, _⟩ := h
    exact .kTuple h1 h2
theorem tyx_d {K : PySem.W.Frag} {H : Hp} {x : V} {d : PyData} (h : Dp K H x d) : TyX K H x (.type (tyName d)) := by
  cases h with
  | non => exact .base .non
  | bl b => exact .base (.bl b)
  | int i => exact .base (.int i)
  | str z => exact .base (.str z)
  | lst h _ => exact tyx_l h
  | tup h _ => exact tyx_t h
section
variable {K : PySem.W.Frag} {H : Hp} {Q : VK} {x : V} {d : PyData}
theorem isi_d {n : String} {b : Bool} (h : Dp K H x d) (hb : kitB (tyName d) n = some b) (q : Q (.bl b) H) : rISI K [x, .ty n] H Q :=
  .inl ⟨x, .ty n, _, _, b, rfl, .ty n, tyx_d h, kit_ty hb, q⟩
theorem isi_d2 {n m : String} {p : Addr} {b : Bool} (h : Dp K H x d) (hp : H p = some (.tup [.ty n, .ty m])) {b1 b2 : Bool} (h1 : kitB (tyName d) n = some b1) (h2 : kitB (tyName d) m = some b2) (hb : b = (b1 || b2)) (q : Q (.bl b) H) : rISI K [x, .ref p] H Q := by
  refine .inr ⟨x, p, _, _, [.type n, .type m], b, rfl, hp, .cons (.ty n) (.cons (.ty m) .nil), tyx_d h, ?_, q⟩
  subst hb
  refine kitAny_cons (kit_ty h1) (fun e => ?_) (fun e => by rw [e]; rfl)
  rw [e, Bool.false_or]
  exact kitAny_cons (kit_ty h2) (fun e => by rw [e]; exact kitAny_nil) (fun e => e)
/-- the six answers of isinstance and is None -/
def kindsB (d : PyData) : List Bool := match d with
  | .none => [false, false, false, false, false, true]
  | .bool _ => [true, true, false, false, false, false]
  | .int _ => [false, true, false, false, false, false]
  | .str _ => [false, false, true, false, false, false]
  | .list _ => [false, false, false, false, true, false]
  | .tuple _ => [false, false, false, true, false, false]
  | .dict _ => []
/-- a list of booleans as data -/
theorem dp_bools {p : Addr} (bs : List Bool) (h : SqL K H p (bs.map V.bl)) : Dp K H (.ref p) (.list (bs.map PyData.bool)) := by
  refine .lst h ?_
  induction bs with
  | nil => exact .nil
  | cons b bs ih =>
    have ih' : DpAll K H (bs.map V.bl) (bs.map PyData.bool) := by
      clear ih h
      induction bs with
      | nil => exact .nil
      | cons c cs ih => exact .cons (.bl c) ih
    exact .cons (.bl b) ih'
theorem eqv_same {d : PyData} (h : SeqAt.shaped d = true) : PyData.eqv d d = true := by
  unfold SeqAt.shaped at h
  rw [Bool.and_eq_true] at h
  exact SeqAt.eqv_refl d h.1
theorem dpAll_get : ∀ {vs : List V} {ds : List PyData}, DpAll K H vs ds → ∀ {i : Nat} (hi : i < ds.length), ∃ v, vs[i]? = some v ∧ Dp K H v ds[i]
  | _, _, .nil, i, hi => absurd hi (Nat.not_lt_zero _)
  | _, _, .cons a b, 0, hi => ⟨_, rfl, a⟩
  | _, _, .cons a b, i + 1, hi => dpAll_get b (Nat.lt_of_succ_lt_succ hi)
theorem dpAll_len : ∀ {vs : List V} {ds : List PyData}, DpAll K H vs ds → vs.length = ds.length
  | _, _, .nil => rfl
  | _, _, .cons a b => by rw [List.length_cons, List.length_cons, dpAll_len b]
end
/-- a comprehension over range(a, b, c) -/
theorem lc_rangeC {lo c : Int} {n : Nat} {g : TG} {tt : TT} {te : TE} {vs : List Nat} {σ : L2.St} {H1 : Hp} {D : Addr} {Qd : Hp → Prop} (Pv : Nat → Hp → Prop) (h0 : Pv 0 (upd H1 D (.lst [])))
    (hs : ∀ i H, i < n → Pv i H → g (.int (lo + (i : Nat) * c)) (wipe σ vs) H fun σ2 H2 => wipe σ2 vs = wipe σ vs ∧ tt σ2 H2 fun b H3 =>
      if b = true then te σ2 H3 fun y H4 => ∃ acc, H4 D = some (.lst acc) ∧ acc.length < sizeLine ∧ Pv (i + 1) (upd H4 D (.lst (acc ++ [y]))) else Pv (i + 1) H3) (hd : ∀ H, Pv n H → Qd H) :
    ∃ W : Nat → Nat → Hp → Prop, (∃ m, W 0 m (upd H1 D (.lst []))) ∧ ∀ i m H, W i m H →
      ((Itc lo c n).stop i H ∧ Qd H) ∨ ((Itc lo c n).go i H ∧ ∃ Nx : Hp → Prop, (∀ H', Nx H' → ∃ m', m' < m ∧ W (i + 1) m' H') ∧ ∀ x H', (Itc lo c n).yld i H x H' → g x (wipe σ vs) H' fun σ2 H2 => wipe σ2 vs = wipe σ vs ∧ tt σ2 H2 fun b H3 =>
        if b = true then te σ2 H3 fun y H4 => ∃ acc, H4 D = some (.lst acc) ∧ acc.length < sizeLine ∧ Nx (upd H4 D (.lst (acc ++ [y]))) else Nx H3) := by
  refine ⟨fun i m H => m = n - i ∧ i ≤ n ∧ Pv i H, ⟨n, by simp, Nat.zero_le _, h0⟩, ?_⟩
  rintro i m H ⟨rfl, hi, p⟩
  by_cases hlt : i < n
  · refine .inr ⟨hlt, Pv (i + 1), fun H' p' => ⟨n - (i + 1), by omega, rfl, hlt, p'⟩, fun x H' y => ?_⟩
    obtain ⟨rfl, rfl⟩ := y
    exact hs i _ hlt p
  · have e : i = n := by omega
    subst e
    exact .inl ⟨Nat.le_refl _, hd H p⟩
theorem rsize_pos {m f : Nat} (h1 : 1 ≤ m) (hf : 1 ≤ f) : Builtin.Range.rangeSize 0 (m : Int) (f : Int) = (((m - 1) / f + 1 : Nat) : Int) := by
  unfold Builtin.Range.rangeSize
  rw [if_pos (by omega), if_pos (by omega), Int.sub_zero, show (m : Int) - 1 = ((m - 1 : Nat) : Int) by omega]
  rfl
theorem small_pos {m f : Nat} (h1 : 1 ≤ m) (h2 : m ≤ 1000000) (hf : 1 ≤ f) (hf2 : f ≤ 1000000) : Builtin.Range.small 0 (m : Int) (f : Int) = true := by
  unfold Builtin.Range.small
  rw [rsize_pos h1 hf]
  simp only [Builtin.Range.rangeFitsLong, Bool.and_eq_true, Bool.or_eq_true, decide_eq_true_eq, beq_iff_eq, show ((f : Int) > 0) by omega, if_true]
  have h3 := Nat.div_le_self (m - 1) f
  generalize (m - 1) / f = q at *
  omega
/-! one sign in figures -/
theorem lit_figs : ("0123456789" : Str) = S [48, 49, 50, 51, 52, 53, 54, 55, 56, 57] := rfl
theorem find_fig (c : Nat) : Txt.find (S [48, 49, 50, 51, 52, 53, 54, 55, 56, 57]) (S [c]) = if 48 ≤ c ∧ c ≤ 57 then ((c - 48 : Nat) : Int) else -1 := by
  by_cases h : 48 ≤ c ∧ c ≤ 57
  · rw [if_pos h]
    have h2 : ∀ k : _root_.Fin 10, Txt.find (S [48, 49, 50, 51, 52, 53, 54, 55, 56, 57]) (S [48 + k.val]) = (k.val : Int) := by decide +kernel
    have e := h2 ⟨c - 48, by omega⟩
    rw [show 48 + (c - 48) = c by omega] at e
    exact e
  · rw [if_neg h]
    have e := SX.in_one [48, 49, 50, 51, 52, 53, 54, 55, 56, 57] c
    have h3 : decide (c ∈ [48, 49, 50, 51, 52, 53, 54, 55, 56, 57]) = false := decide_eq_false fun hm => h (by
      simp only [List.mem_cons, List.not_mem_nil, or_false] at hm
      omega)
    rw [h3, Bool.not_eq_false'] at e
    unfold Txt.find
    rw [List.isEmpty_iff] at e
    show (match Builtin.Str.occurrences (SX.S _) (SX.S [c]) 0 (SX.S _).length 1 with | i :: _ => (i : Int) | [] => -1) = -1
    rw [e]
/-! figures of a number -/
def figs : Nat → Nat → List Nat
  | 0, _ => []
  | w + 1, n => figs w (n / 10) ++ [48 + n % 10]
theorem figs_len : ∀ w n, (figs w n).length = w
  | 0, _ => rfl
  | w + 1, n => by rw [figs, List.length_append, figs_len w]; rfl
theorem digitChar_nat {n : Nat} (h : n < 10) : n.digitChar.toNat = 48 + n := by
  have h2 : ∀ k : _root_.Fin 10, k.val.digitChar.toNat = 48 + k.val := by decide
  exact h2 ⟨n, h⟩
theorem toDigits_len10 {w n : Nat} (h : n < 10 ^ w) (hw : 0 < w) : (Nat.toDigits 10 n).length ≤ w := by
  have h1 := (Nat.length_repr_le_iff (n := n) (k := w) hw).mpr h
  rwa [← String.length_toList, Nat.toList_repr] at h1
def pad (w n : Nat) : List Nat := List.replicate (w - (Nat.toDigits 10 n).length) 48 ++ (Nat.toDigits 10 n).map Char.toNat
theorem zpad_S (w n : Nat) : zpad w (n : Int) = S (pad w n) := rfl
theorem figs_zero : ∀ w, figs w 0 = List.replicate w 48
  | 0 => rfl
  | w + 1 => by
    rw [figs, Nat.zero_div, Nat.zero_mod, figs_zero w, List.replicate_succ']
theorem pad_figs : ∀ (w n : Nat), n < 10 ^ w → 0 < w → pad w n = figs w n
  | 0, _, _, h => absurd h (Nat.lt_irrefl _)
  | w + 1, n, h, _ => by
    by_cases hn : n < 10
    · unfold pad
      rw [Nat.toDigits_of_lt_base hn]
      show List.replicate (w + 1 - 1) 48 ++ [n.digitChar.toNat] = figs (w + 1) n
      rw [figs, digitChar_nat hn, Nat.div_eq_of_lt hn, Nat.mod_eq_of_lt hn, figs_zero]
      rfl
    · have hw : 0 < w := by
        rcases Nat.eq_zero_or_pos w with e | e
        · subst e
          simp at h
          omega
        · exact e
      have h2 : n / 10 < 10 ^ w := by
        rw [Nat.div_lt_iff_lt_mul (by decide)]
        rwa [Nat.pow_succ] at h
      have ih := pad_figs w (n / 10) h2 hw
      have hl := toDigits_len10 h2 hw
      rw [figs, ← ih]
      unfold pad
      rw [Nat.toDigits_of_base_le (by decide) (by omega), List.length_append, List.map_append, ← List.append_assoc]
      show List.replicate (w + 1 - ((Nat.toDigits 10 (n / 10)).length + 1)) 48 ++ _ ++ [(n % 10).digitChar.toNat] = _
      rw [digitChar_nat (Nat.mod_lt _ (by decide)), show w + 1 - ((Nat.toDigits 10 (n / 10)).length + 1) = w - (Nat.toDigits 10 (n / 10)).length by omega]
theorem figs_isD : ∀ w n, isD (figs w n) = true
  | 0, _ => rfl
  | w + 1, n => by
    show List.all (figs (w + 1) n) _ = true
    rw [figs, List.all_append]
    have e : (figs w (n / 10)).all (fun c => decide (48 ≤ c) && decide (c ≤ 57)) = true := figs_isD w (n / 10)
    rw [e, Bool.true_and]
    have := Nat.mod_lt n (show 10 > 0 by decide)
    simp
    omega
theorem digitsVal_snoc (a : List Nat) (c : Nat) : NumText.digitsVal (a ++ [c]) = NumText.digitsVal a * 10 + (c - 48) := by
  unfold NumText.digitsVal
  rw [List.foldl_append]
  rfl
theorem digitsVal_figs : ∀ w n, n < 10 ^ w → NumText.digitsVal (figs w n) = n
  | 0, n, h => by
    have : n = 0 := by simpa using h
    subst this
    rfl
  | w + 1, n, h => by
    rw [figs, digitsVal_snoc, digitsVal_figs w (n / 10) (by rw [Nat.div_lt_iff_lt_mul (by decide)]; rwa [Nat.pow_succ] at h)]
    omega
theorem isD_isT {l : List Nat} (h : isD l = true) : isT l = true := isT_of fun c hc => by
  have z := List.all_eq_true.mp h c hc
  rw [Bool.and_eq_true, decide_eq_true_eq, decide_eq_true_eq] at z
  omega
end My

set_option Elab.async false
set_option linter.all false
set_option maxRecDepth 100000
set_option maxHeartbeats 400000
/-! ### the greatest, with one for none; noughts ahead -/
namespace My
open PySem PySem.Spec PyProof.Rows L2
theorem maxOf_int (x : Int) : ∀ xs : List Int, PySem.W.maxOf x xs ∈ x :: xs ∧ ∀ y ∈ x :: xs, y ≤ PySem.W.maxOf x xs := by
  intro xs
  unfold PySem.W.maxOf
  induction xs generalizing x with
  | nil => exact ⟨List.mem_singleton.mpr rfl, fun y hy => by rw [List.mem_singleton.mp hy]; exact Int.le_refl _⟩
  | cons z zs ih =>
    rw [List.foldl_cons]
    have e : PySem.W.DatumOrd.lt x z = decide (x < z) := rfl
    rw [e]
    by_cases h : x < z
    · rw [if_pos (decide_eq_true h)]
      obtain ⟨h1, h2⟩ := ih z
      refine ⟨List.mem_cons_of_mem _ h1, fun y hy => ?_⟩
      rcases List.mem_cons.mp hy with rfl | hy
      · exact Int.le_trans (Int.le_of_lt h) (h2 z (List.mem_cons_self ..))
      · exact h2 y hy
    · rw [if_neg (by rw [decide_eq_false h]; decide)]
      obtain ⟨h1, h2⟩ := ih x
      refine ⟨?_, fun y hy => ?_⟩
      · rcases List.mem_cons.mp h1 with h1 | h1
        · rw [h1]; exact List.mem_cons_self ..
        · exact List.mem_cons_of_mem _ (List.mem_cons_of_mem _ h1)
      · rcases List.mem_cons.mp hy with rfl | hy
        · exact h2 _ (List.mem_cons_self ..)
        · rcases List.mem_cons.mp hy with rfl | hy
          · exact Int.le_trans (by omega) (h2 x (List.mem_cons_self ..))
          · exact h2 y (List.mem_cons_of_mem _ hy)
section
variable {X : Cx}
def rMAXD (K : PySem.W.Frag) : List V → List V → Hp → VK → Prop := fun xs zs H Q => ∃ (a : Addr) (ns : List Int) (d : V), xs = [.ref a] ∧ zs = [d] ∧ SqL K H a (ns.map V.int) ∧ (ns = [] → Q d H) ∧ ∀ m, m ∈ ns → (∀ y, y ∈ ns → y ≤ m) → Q (.int m) H
theorem call_MAXD (hc : X.calm = true) (hu : X.A.units + 64 < cLine) : CallRK X (.builtin "max") ["default"] (rMAXD X.K) := by
  intro pins s σ H xs zs us ws Q I rx rz h
  obtain ⟨a, ns, d, rfl, rfl, hs, q0, q⟩ := h
  obtain ⟨its, rv, hl, _⟩ := I.list hs
  rw [Vals.ref1 rx]
  cases rz with
  | cons r1 r2 =>
    cases r2
    rename_i w
    have hi : IntsAre its ns := rv.ints
    refine PySem.W.max_list_datum_default (xs := ns) (I.ok.hd hc) hl.isList ?_ ?_ (fun e h' tk hk => ⟨d, H, I.kept hk, r1, q0 e⟩) fun y ys i v h' tk e hv hh hk => ?_
    · rw [List.toList_toArray]
      exact PySem.W.HoldAll.of_ints hi
    · show X.A.units + 1 + 0 < cLine
      omega
    · subst e
      obtain ⟨m1, m2⟩ := maxOf_int y ys
      obtain ⟨as, hr⟩ := hh
      have hr' : Reads h' v (.int (PySem.W.maxOf y ys)) as := hr
      cases hr' with
      | int _ t => exact ⟨.int _, H, I.kept hk, ⟨t, rfl⟩, q _ m1 m2⟩
end
end My
namespace PySem
open Builtin Builtin.Str Builtin.Int
theorem my_gives_rjust3 (x : Str) (i : Int) (c : Nat) (t u v : Tok) (hr : (decide (i < -(2 ^ 63 : Int)) || decide (i ≥ 2 ^ 63)) = false) (hl : tooLong i.toNat = false) :
    Gives («str.rjust» ⟨[.str x t, .int i u, .str ⟨#[c]⟩ v], []⟩) (if i ≤ x.length then .val (.str x t) else .str (padded x (i.toNat - x.length) 0 c)) := by
  show Gives (do
             let width ← asSsize s!"str.{"rjust"}" (.int i u)
             if width ≤ x.length then (do rule s!"str.{"rjust"}.long-enough"; ret (.str x t)) else
             if tooLong width.toNat = true then unsupported s!"str.{"rjust"}:memory" else retStr (padded x (width.toNat - x.length) 0 c)) _
  rw [asSsize_int _ _ _ hr]
  show Gives (if i ≤ x.length then (do rule s!"str.{"rjust"}.long-enough"; ret (.str x t)) else if tooLong i.toNat = true then unsupported s!"str.{"rjust"}:memory" else retStr (padded x (i.toNat - x.length) 0 c)) _
  rw [hl]
  by_cases h : i ≤ (x.length : Int)
  · rw [if_pos h, if_pos h]; exact .rule (.of_eq rfl)
  · rw [if_neg h, if_neg h]; exact .of_eq rfl
def myRjust (x : Str) (i : Int) (c : Nat) : Str := if i ≤ x.length then x else padded x (i.toNat - x.length) 0 c
theorem my_rjust3 {prog : Program} {w : World} {A : Around} {E : Value → Shared → Prop} {s : Shared} {Q : Value → Shared → Prop} {x : Str} {t : Tok} {i : Int} {c : Nat} {u v : Tok} (hp : PadOk i = true) (hq : ∀ t' k, Q (.str (myRjust x i c) t') { s with toks := k }) : wpAny (model prog w) A (call (.builtin "str.rjust") [.str x t, .int i u, .str ⟨#[c]⟩ v]) Q E s :=
  call_gives F.slot_str_rjust (typeIs_str _ _ _) F.entry_str_rjust (F.args_str_rjust_3 _ _ _) (my_gives_rjust3 x i c t u v (PadOk.parts hp).1 (PadOk.parts hp).2) (post_val_or_made (fits_padL c (PadOk.parts hp).2) hq)
end PySem
namespace My
open PySem PySem.Spec PyProof.Rows L2
section
variable {X : Cx}
def rM_rjust2 : V → List V → Hp → VK → Prop := fun x xs H Q => ∃ (a : Str) (i : Int) (c : Nat), x = .str a ∧ xs = [.int i, .str ⟨#[c]⟩] ∧ PadOk i = true ∧ Q (.str (myRjust a i c)) H
theorem mt_RJUST2 : MtR X "str.rjust" rM_rjust2 := by
  intro pins s σ H x xs v us Q I rx rs h
  obtain ⟨a, i, c, rfl, rfl, hc, h⟩ := h
  obtain ⟨t, rfl⟩ := rx
  cases rs with
  | cons r1 rs =>
    cases rs with
    | cons r2 rs =>
      cases rs
      obtain ⟨u, rfl⟩ := r1
      obtain ⟨z, rfl⟩ := r2
      exact my_rjust3 hc fun t' k => ⟨.str (myRjust a i c), H, I.tok k, ⟨t', rfl⟩, h⟩
end
theorem rj_S (l : List Nat) (w c : Nat) : myRjust (S l) (w : Int) c = S (List.replicate (w - l.length) c ++ l) := by
  unfold myRjust
  rw [S_len]
  by_cases h : (w : Int) ≤ l.length
  · rw [if_pos h, show w - l.length = 0 by omega]
    rfl
  · rw [if_neg h]
    unfold Builtin.Str.padded
    show (⟨_⟩ : Str) = ⟨_⟩
    congr 1
    apply Array.ext'
    simp
theorem numL_eq (n : Nat) : TL.numL n = (Nat.toDigits 10 n).map Char.toNat := by
  unfold TL.numL
  simp
theorem rj_num (n : Nat) : myRjust (Str.ofString (toString (n : Int))) 6 48 = S (pad 6 n) := by
  rw [SX.num_S]
  have e := rj_S (TL.numL n) 6 48
  rw [numL_eq, List.length_map] at e
  rw [numL_eq]
  exact e
end My

set_option Elab.async false
set_option linter.all false
set_option maxRecDepth 100000
set_option maxHeartbeats 400000
/-! ### unpacking, slices of lists and tuples, appending -/
namespace My
open PySem PySem.Spec PyProof.Rows L2
section
variable {K : PySem.W.Frag} {H : Hp} {Q : VK} {σ : L2.St} {v x : V} {r : List V}
theorem x_gc {t : TG} {u : TGs} {N : L2.St → Hp → Prop} (h : t v σ H fun σ' H' => u r σ' H' N) : gCons t u (v :: r) σ H N := ⟨v, r, rfl, h⟩
theorem x_gz {N : L2.St → Hp → Prop} (h : N σ H) : gNil [] σ H N := ⟨rfl, h⟩
theorem gt_T {a : Addr} {xs : List V} {n : Nat} {t : TGs} {N : L2.St → Hp → Prop} (hs : SqT K H a xs) (hl : xs.length = n) (h : t xs σ H N) : gTup K n t (.ref a) σ H N := ⟨a, xs, rfl, hs, hl, h⟩
theorem x_ckw {rr : List V → List V → Hp → VK → Prop} {ta tk : TA} (h : ta σ H fun vs H1 => tk σ H1 fun zs H2 => rr vs zs H2 Q) : tCKw rr ta tk σ H Q := h
theorem ap_L {p : Addr} {xs : List V} {y : V} (hp : H p = some (.lst xs)) (hl : xs.length ≤ 1000000) (h : Q .non (upd H p (.lst (xs ++ [y])))) : rAppend (.ref p) [y] H Q := ⟨p, xs, y, rfl, rfl, hp, Nat.lt_of_le_of_lt hl (by decide), h⟩
theorem cutV_mid (xs : List V) (a b : Nat) : cutV xs (some (a : Int)) (some (b : Int)) = (xs.take b).drop a := by
  unfold cutV
  rw [HT.sIx_nat, HT.sIx_nat, List.drop_take]
  rcases Nat.le_total a xs.length with h | h
  · rw [Nat.min_eq_left h]
    rcases Nat.le_total b xs.length with h2 | h2
    · rw [Nat.min_eq_left h2]
    · rw [Nat.min_eq_right h2, List.take_of_length_le (by rw [List.length_drop]; exact Nat.le_refl _), List.take_of_length_le (by rw [List.length_drop]; omega)]
  · rw [Nat.min_eq_right h, List.drop_eq_nil_of_le h]
    simp
theorem cutV_from (xs : List V) (a : Nat) : cutV xs (some (a : Int)) none = xs.drop a := by
  unfold cutV
  rw [HT.sIx_nat, HT.sIx_none]
  rcases Nat.le_total a xs.length with h | h
  · rw [Nat.min_eq_left h]
    exact List.take_of_length_le (by rw [List.length_drop]; exact Nat.le_refl _)
  · rw [Nat.min_eq_right h, List.drop_eq_nil_of_le h]
    simp
theorem cutV_to (xs : List V) (b : Nat) : cutV xs none (some (b : Int)) = xs.take b := by
  unfold cutV
  rw [HT.sIx_nat, HT.sIx_none, List.drop_zero, Nat.sub_zero]
  rcases Nat.le_total b xs.length with h | h
  · rw [Nat.min_eq_left h]
  · rw [Nat.min_eq_right h, List.take_of_length_le (Nat.le_refl _), List.take_of_length_le h]
theorem sl_T {a : Addr} {xs : List V} {lo hi : Option Int} (hs : SqT K H a xs) (h : ∀ p H', Same H H' → SqT K H' p (cutV xs lo hi) → Q (.ref p) H') : rSL K (.ref a) lo hi H Q := by
  refine .inr (.inr ⟨a, xs, rfl, hs, fun e => ?_, fun _ p hp => h p _ (same_upd hp) (tup_of upd_same)⟩)
  refine h a H (Same.refl H) ?_
  have e2 : cutV xs lo hi = xs := by
    unfold cutV
    rw [e.1, e.2, List.drop_zero, Nat.sub_zero, List.take_of_length_le (Nat.le_refl _)]
  rw [e2]
  exact hs
theorem sl_any {l : List Nat} {lo hi : Option Int} (hl : l.length ≤ 1000000) (hT : isT l = true) (q : ∀ l', l'.length ≤ l.length → isT l' = true → Q (.str (S l')) H) : rSL K (.str (S l)) lo hi H Q := by
  refine sl_S (by rw [S_len]; exact big_line hl) ?_
  unfold cutS
  rw [S_cps]
  refine q _ ?_ (isT_take _ (isT_drop _ hT))
  rw [List.length_take, List.length_drop]
  omega
theorem mx_L {a : Addr} {ns : List Int} (hs : SqL K H a (ns.map V.int)) (h0 : 0 < ns.length) (q : ∀ m, m ∈ ns → (∀ y, y ∈ ns → y ≤ m) → Q (.int m) H) : rMax K [.ref a] H Q := ⟨a, ns, rfl, hs, h0, q⟩
theorem mxd_L {a : Addr} {ns : List Int} {d : V} (hs : SqL K H a (ns.map V.int)) (h0 : ns = [] → Q d H) (q : ∀ m, m ∈ ns → (∀ y, y ∈ ns → y ≤ m) → Q (.int m) H) : rMAXD K [.ref a] [d] H Q := ⟨a, ns, d, rfl, rfl, hs, h0, q⟩
theorem tu_L {a : Addr} {xs : List V} (hs : SqL K H a xs) (h : ∀ l, H l = none → Q (.ref l) (upd H l (.tup xs))) : rTUPLE K [.ref a] H Q := ⟨a, xs, rfl, .inl ⟨hs, h⟩⟩
end
end My

set_option Elab.async false
set_option linter.all false
set_option maxRecDepth 100000
set_option maxHeartbeats 400000
/-! ### small letters; the least of a list -/
namespace My
open PySem PySem.Spec PyProof.Rows L2
def rM_lower : V → List V → Hp → VK → Prop := fun x xs H Q => ∃ a, x = .str a ∧ xs = [] ∧ a.length ≤ 5592405 ∧ Q (.str (Txt.lower a)) H
theorem lo1_T {c : Nat} (h0 : 32 ≤ c) (h1 : c ≤ 126) : 32 ≤ lo1 c ∧ lo1 c ≤ 126 := by
  have h2 : ∀ c : _root_.Fin 127, 32 ≤ c.val → 32 ≤ lo1 c.val ∧ lo1 c.val ≤ 126 := by decide +kernel
  exact h2 ⟨c, by omega⟩ h0
theorem lw_S {H : Hp} {Q : VK} {l : List Nat} (hl : l.length ≤ 1000000) (hT : isT l = true) (q : ∀ l' : List Nat, l'.length = l.length → isT l' = true → Q (.str (S l')) H) : rM_lower (.str (S l)) [] H Q := by
  refine ⟨S l, rfl, rfl, by rw [S_len]; omega, ?_⟩
  have e : Txt.lower (S l) = S (l.map lo1) := SX.lower_S (List.all_eq_true.mpr fun c hc => decide_eq_true (by have := isT_mem hT hc; omega))
  rw [e]
  refine q _ (List.length_map ..) (isT_of fun c hc => ?_)
  obtain ⟨d, hd, rfl⟩ := List.mem_map.mp hc
  have := isT_mem hT hd
  exact lo1_T this.1 this.2
theorem lcS_mk {H : Hp} {Q : VK} {σ : L2.St} {g : TG} {t : TT} {te : TE} {ws : List Nat} {l : List Nat} (Pv : Addr → Nat → Hp → Prop) (h0 : ∀ D, H D = none → Pv D 0 (upd H D (.lst [])))
    (hs : ∀ D i c H', H D = none → l[i]? = some c → Pv D i H' → g (.str (S [c])) (wipe σ ws) H' fun σ2 H2 => wipe σ2 ws = wipe σ ws ∧ t σ2 H2 fun b H3 => if b = true then te σ2 H3 fun y H4 => ∃ acc, H4 D = some (.lst acc) ∧ acc.length < sizeLine ∧ Pv D (i + 1) (upd H4 D (.lst (acc ++ [y]))) else Pv D (i + 1) H3)
    (hd : ∀ D H', H D = none → Pv D l.length H' → Q (.ref D) H') : LcS g t te ws σ Q (.str (S l)) H := by
  refine ⟨S l, rfl, fun D hD => ⟨fun i m H' => m = l.length - i ∧ i ≤ l.length ∧ Pv D i H', ⟨l.length, by simp, Nat.zero_le _, h0 D hD⟩, ?_⟩⟩
  rintro i m H' ⟨rfl, hi, p⟩
  have hsz : (S l).cps.size = l.length := rfl
  by_cases hlt : i < l.length
  · refine .inr ⟨by show i < (S l).cps.size; rw [hsz]; exact hlt, Pv D (i + 1), fun H2 p' => ⟨l.length - (i + 1), by omega, rfl, hlt, p'⟩, fun x H2 y => ?_⟩
    obtain ⟨rfl, c, hc, rfl⟩ := y
    refine hs D i c _ hD ?_ p
    have e : (S l).cps = l.toArray := rfl
    rw [e] at hc
    simpa using hc
  · have e : i = l.length := by omega
    subst e
    exact .inl ⟨by show (S l).cps.size ≤ l.length; rw [hsz]; exact Nat.le_refl _, hd D H' hD p⟩
section
variable {K : PySem.W.Frag} {H : Hp} {Q : VK}
theorem mn_L {a : Addr} {ns : List Int} (hs : SqL K H a (ns.map V.int)) (h0 : 0 < ns.length) (q : ∀ m, m ∈ ns → (∀ y, y ∈ ns → m ≤ y) → Q (.int m) H) : rMin K [.ref a] H Q := ⟨a, ns, rfl, hs, h0, q⟩
end
end My

set_option Elab.async false
set_option linter.all false
set_option maxRecDepth 100000
set_option maxHeartbeats 1000000
/-! ### raised and caught; tokens; texts exchanged in texts -/
namespace My
open PySem PySem.Spec PyProof.Rows L2
/-! #### raise, try -/
/-- an error of a class without fields leaves -/
def tRaise (c : Value) (E : XK) : TS := fun _ _ H => E c none H
/-- inside a try -/
def tRaiseW (c : Value) (W : WX) : TS := fun _ σ H => W c none σ H
def tTry (K : PySem.W.Frag) (Wout : WX) (l : List (Value × (Addr → Value → Option Addr → TS))) (tb : WX → TS) : TS := fun D σ H => tb (wMany K Wout D l) D σ H
def W0 : WX := fun _ _ _ _ => False
section
variable {X : Cx} {C : Addr}
theorem ps_raiseE {x m : Str} {j : Nat} {p p2 pos pos2 : Pos} {bmB : List Value} {B newId initId : String} {E : XK} (hc : X.calm = true) (tk : Takes X (fun cls d _ H => E cls d H)) (F : ExcBaseFacts B newId initId bmB) (q : PySem.W.excIn X.K C bmB newId = true) (gC : X.mg x = some (.ref C)) (kC : PySem.W.keepIn X.K (.ref C) = true) (r : Raises X (.ref C)) (hg : Gl X x)
    (hdb : (x == ("__debug__" : Str)) = false := by decide) : PS X (.Raise (some (.Call (.Name x p) [.Constant (.str m) j p2] [] pos)) none pos2) (tRaise (.ref C) E) := ps_raise hc tk (pmk_own F q gC kC r hg hdb)
theorem ps_tryM {body : List Stmt} {h₀ : ExceptHandler} {hds : List ExceptHandler} {l : List (Value × (Addr → Value → Option Addr → TS))} {pos : Pos} {tb : WX → TS} {Wout : WX} (hs : X.stack = X.env :: X.outer) (hf : X.env.frame = some X.env.locals) (tk : Takes X Wout)
    (hb : ∀ (W : WX) (pn : List (Addr × Obj)) (xe : Value → Shared → Prop), Takes (X.tr pn xe) W → PassesOwn (model X.prog X.w) X.A X.env xe → PSs (X.tr pn xe) body (tb W))
    (hh : HdsOk X (h₀ :: hds) l) : PS X (.Try body (h₀ :: hds) [] [] pos) (tTry X.K Wout l tb) := ps_try_many hs hf tk hb hh
/-- what a callee lets out, the def lets out -/
theorem passT {E : XK} (tk : Takes X (fun cls d _ H => E cls d H)) : Passes (L2.CX X.prog X.w) X E := fun pins σ H s e s' I c => passAt tk σ pins H s e s' I c
end
/-! #### tokens: a def that is run where a text has been written -/
structure FnT (P : Program) (w : World) (K : PySem.W.Frag) (mg : Str → Option Value) (base : Heap) (CX : CXT) (k : Nat) (f : Addr) (fd : FuncData) (ps : List Str) (sp : Sp) : Prop where
  len : ∀ vs H Q E, sp vs H Q E → vs.length = ps.length
  run : ∀ (A : Around) (outer : List Env) (s : Shared) (H : Hp) (args : Args) (us : List Value) (vs : List V) (Q : VK) (E : XK), 1 ≤ s.toks → Room k A → Env0 P w K mg base A outer s H → BindsTo s fd args (ps.zip us) → Vals vs us → sp vs H Q E →
    codeAny (model P w) A (.call (.ref f) args) (CR CX outer P w H s Q E) s
theorem FnT.mono {P : Program} {w : World} {K : PySem.W.Frag} {mg : Str → Option Value} {base : Heap} {CX : CXT} {j k : Nat} {f : Addr} {fd : FuncData} {ps : List Str} {sp : Sp} (F : FnT P w K mg base CX j f fd ps sp) (h : j ≤ k) :
    FnT P w K mg base CX k f fd ps sp := ⟨F.len, fun A outer s H args us vs Q E h0 hr => F.run A outer s H args us vs Q E h0 (hr.mono h)⟩
theorem fnT_of {CX : CXT} {P : Program} {w : World} {K : PySem.W.Frag} {mg : Str → Option Value} {base : Heap} {k : Nat} {f : Addr} {name qual : Str} {params : Arguments} {body : List Stmt} {scope : Scope} {dV kV doc pm cdv ct oc : Value} {an od : Option Addr}
    {osl : Array (Option Value)} {N ps : List Str} {sp : Sp} (lk : K.lookup f = some ⟨oc, od, .func (PySem.W.fnOf name qual params body scope dV kV doc pm an cdv ct), osl⟩) (hcd : PySem.W.codeIn K cdv qual = true) (S : FnScope N ps scope)
    (len : ∀ vs H Q E, sp vs H Q E → vs.length = ps.length)
    (hbody : ∀ (A : Around) (outer : List Env) (s : Shared) (H : Hp) (vs : List V) (Q : VK) (E : XK), Room k (A.deeper (envOfC qual scope s.heap.objs.size f cdv)) → sp vs H Q E →
      ∃ t, PSsT (cxOf CX P w K mg base N qual scope f cdv A outer s H E) body t ∧ t { nx := fun _ H' => Q .non H', rt := Q } (start N vs) H) :
    FnT P w K mg base CX (k + 1) f (PySem.W.fnOf name qual params body scope dV kV doc pm an cdv ct) ps sp := by
  refine ⟨len, fun A outer s H args us vs Q E h0 hr e0 hb r hsp => ?_⟩
  have hl := len _ _ _ _ hsp
  have KX : K.In s.heap := e0.mod.kin.keeps fun b o e => (e0.bs b o e).1
  have lim : s.heap.NoLimit := e0.mod.nolimit.keeps fun b o e => (e0.bs b o e).1
  have hkind : ∀ y ∈ ps.zip us, scope.names.lookup y.1 = some .local ∨ (scope.names.lookup y.1 = some .cell ∧ ((cellsFrom (s.heap.objs.size + 1) scope.names []).lookup y.1).isSome = true) := fun ⟨n, v⟩ hy => by
    rcases S.par n (List.of_mem_zip hy).1 with q | q
    · exact .inl q
    · exact .inr ⟨q, PySem.W.cellsFrom_some _ _ _ (.inl q)⟩
  refine codeAny_call_function hr.depth (KX _ _ lk) rfl S.co S.gen rfl (PySem.W.codeRec_of KX hcd) (hb _ _ _ _ ?_)
  refine wpAny_with_toks h0 (wpAny_newFunctionEnv_cells S.kind hkind fun env he s1 x => ?_)
  intro h1
  subst he
  refine ⟨lim.keeps x.toInCall.keep, codeAny_func ?_⟩
  obtain ⟨t, ht, hq⟩ := hbody A outer s H vs Q E (hr.deeper _) hsp
  have I : Inv (cxOf CX P w K mg base N qual scope f cdv A outer s H E) [] (start N vs) H s1 := inv_start S hr.hd e0 hl r x
  refine wpAny_mono (ht [] s1 (start N vs) H _ h1 I hq) (fun fl s' hs => ?_) fun e s' hs => hs
  have fin : ∀ {σ' : L2.St} {H' : Hp} {v : V} {u : Value}, Inv (cxOf CX P w K mg base N qual scope f cdv A outer s H E) [] σ' H' s' → RelV v u → Q v H' → CE outer P w H s Q u s' :=
    fun {σ' H' v u} J rv q => ⟨v, H', J.os, J.bare, J.base, J.hok, rv, q⟩
  cases fl with
  | ret u =>
    obtain ⟨v, σ', H', J, rv, q⟩ := hs
    exact fin J rv q
  | next =>
    obtain ⟨σ', H', J, q⟩ := hs
    exact fin (v := V.non) (u := Value.none) J rfl q
  | brk =>
    obtain ⟨_, _, _, q⟩ := hs
    exact False.elim q
  | cont =>
    obtain ⟨_, _, _, q⟩ := hs
    exact False.elim q
theorem Fun.okT {P : Program} {w : World} {K : PySem.W.Frag} {mg : Str → Option Value} {base : Heap} {x qual : Str} {st : Stmt} {f : Addr} {fd : FuncData} {N ps : List Str} {k : Nat} {sp : Sp} (F : L2.Fun K x qual st f fd) (S : FnScope N ps (defScope st)) (len : ∀ vs H Q E, sp vs H Q E → vs.length = ps.length)
    (hbody : ∀ (cdv : Value) (A : Around) (outer : List Env) (s : Shared) (H : Hp) (vs : List V) (Q : VK) (E : XK), Room k (A.deeper (envOfC qual (defScope st) s.heap.objs.size f cdv)) → sp vs H Q E →
      ∃ t, PSsT (cxOf CX0 P w K mg base N qual (defScope st) f cdv A outer s H E) (defBody st) t ∧ t { nx := fun _ H' => Q .non H', rt := Q } (start N vs) H) : FnT P w K mg base CX0 (k + 1) f fd ps sp := by
  obtain ⟨oc, od, kV, doc, pm, an, cdv, ct, osl, rfl, lk, hcd⟩ := F.ex
  exact fnT_of lk hcd S len fun A outer s H vs Q E hr hsp => hbody cdv A outer s H vs Q E hr hsp
section
variable {X : Cx} {CX : CXT} {k : Nat} {f : Addr} {fd : FuncData} {ps : List Str} {sp : Sp} {E : XK} {x m : Str} {p pos apos : Pos} {e o : Expr} {es : List Expr} {ta to te tb : TE} {t : TA} {st : Stmt} {rest : List Stmt} {u v : TS}
theorem PET.of (h : PE X e te) : PET X e te := fun pins s σ H Q _ I q => h.run pins s σ H Q I q
theorem PAT.of (h : PA X es t) : PAT X es t := fun pos pins s σ H Q _ I q => h.run pos pins s σ H Q I q
theorem run_fnT {pins : List (Addr × Obj)} {σ : L2.St} {H : Hp} {s : Shared} {Q : VK} {us : List Value} {vs : List V} (F : FnT X.prog X.w X.K X.mg X.base CX k f fd ps sp) (h0 : 1 ≤ s.toks) (hr : Room k X.A) (hb : Binds X.K fd ps []) (hx : Passes CX X E)
    (I : Inv X pins σ H s) (r : Vals vs us) (h : sp vs H Q E) : wpAny (model X.prog X.w) X.A (call (.ref f) us) (EP X pins σ Q) X.xe s := by
  have hl : us.length = ps.length := by rw [← r.length]; exact F.len _ _ _ _ h
  have b := hb s us I.kIn (by rw [List.append_nil]; exact hl)
  rw [List.append_nil] at b
  refine wpAny_call (codeAny_mono (F.run X.A X.stack s H ⟨us, []⟩ us vs Q E h0 hr I.env0 b r h) fun r s' hq => ?_)
  cases r with
  | error e => exact hx pins σ H s e s' I hq
  | ok fl =>
    cases fl with
    | ret u => exact I.after hq
    | next => exact False.elim hq
    | brk => exact False.elim hq
    | cont => exact False.elim hq
theorem pe_callT (F : FnT X.prog X.w X.K X.mg X.base CX k f fd ps sp) (hr : Room k X.A) (hg : Gl X x) (hm : X.mg x = some (.ref f)) (hk : PySem.W.keepIn X.K (.ref f) = true) (hb : Binds X.K fd ps []) (hx : Passes CX X E)
    (ha : PA X (e :: es) t) (hdb : (x == ("__debug__" : Str)) = false := by decide) (he : starEach (e :: es) X.env = (false, eval e X.env) :: starEach es X.env := by rfl) (hpl : (backTo pos (starEach es X.env)).any (·.1) = false := by rfl) :
    PET X (.Call (.Name x p) (e :: es) [] pos) (tCall sp [] E t) := by
  intro pins s σ H Q h0 I h
  refine wpAny_Call_Name_kw (ld_glob I hg hm ?_ hdb)
  refine PySem.W.callWith_K (h₀ := X.base) I.ok.mod.kin hk (wpAny_mono (wpAny_toks_of h0 (ha.run pos pins s σ H _ I h)) (fun us s1 ⟨h1, vs, H1, I1, r, q⟩ => ⟨I1.kIn, ?_⟩) fun _ _ z => z.2) he hpl
  have q' : sp vs H1 Q E := by
    have e : vs ++ [] = vs := List.append_nil vs
    have q2 : sp (vs ++ []) H1 Q E := q
    rw [e] at q2
    exact q2
  exact run_fnT F h1 hr hb hx I1 r q'
/-- a written text on the left -/
theorem pe_opK {c : Str} {j : Nat} {cp : Pos} {op : Operator} {r : R2} {b : Expr} (ho : OpR X (binaryOp op) r) (hb : PET X b tb) : PE X (.BinOp (.Constant (.str c) j cp) op b pos) (tOp r (tC (.str c)) tb) := by
  refine ⟨fun pins s σ H Q I h => ?_⟩
  refine wpAny_BinOp (Calls.Constant_str ?_)
  refine thn (hb pins { s with toks := s.toks + 1 } σ H _ (Nat.le_add_left _ _) (I.tok _) h) fun u s2 ⟨y, H2, I2, ry, q⟩ => ?_
  exact ho pins s2 σ H2 (.str c) y _ u Q I2 ⟨_, rfl⟩ ry q
theorem pet_op {op : Operator} {r : R2} {a b : Expr} (ho : OpR X (binaryOp op) r) (ha : PET X a ta) (hb : PE X b tb) : PET X (.BinOp a op b pos) (tOp r ta tb) := by
  intro pins s σ H Q h0 I h
  refine wpAny_BinOp (thn (ha pins s σ H _ h0 I h) fun v s1 ⟨x, H1, I1, r1, q1⟩ => ?_)
  refine thn (hb.run pins s1 σ H1 _ I1 q1) fun u s2 ⟨y, H2, I2, r2, q2⟩ => ?_
  exact ho pins s2 σ H2 x y v u Q I2 r1 r2 q2
theorem pst_ret (he : PET X e te) : PST X (.Return (some e) pos) (tRet te) := by
  intro pins s σ H D h0 I h
  exact wpAny_Return_some (thn (he pins s σ H _ h0 I h) fun v s1 ⟨x, H1, I1, r1, q1⟩ => ⟨x, σ, H1, I1, r1, q1⟩)
theorem psst_one (h : PST X st u) : PSsT X [st] u := by
  intro pins s σ H D h0 I q
  refine wpAny_execs_cons (thn (h pins s σ H D h0 I q) fun f s1 q1 => ?_)
  cases f with
  | next =>
    obtain ⟨σ', H', I', q2⟩ := q1
    exact wpAny_execs_nil ⟨σ', H', I', q2⟩
  | ret v => exact q1
  | brk => exact q1
  | cont => exact q1
/-- o.replace('y', 'z') -/
def tRepl (y z : Str) (to : TE) : TE := fun σ H Q => to σ H fun x H1 => ∃ a : Str, x = .str a ∧ a.length + (a.length + 1) * z.length ≤ 16777216 ∧ Q (.str (Txt.replace a y z)) H1
theorem pet_repl {y z : Str} {j0 j1 : Nat} {c0 c1 apos : Pos} (ho : PET X o to) (hyz : (y == z) = false)
    (hst : starEach [.Constant (.str y) j0 c0, .Constant (.str z) j1 c1] X.env = [(false, eval (.Constant (.str y) j0 c0) X.env), (false, eval (.Constant (.str z) j1 c1) X.env)] := by rfl)
    (hbase : attributeBase o "replace" X.env (eval o X.env) = eval o X.env := by rfl) (hline : (apos.endLine == pos.line) = true := by rfl) :
    PET X (.Call (.Attribute o "replace" apos) [.Constant (.str y) j0 c0, .Constant (.str z) j1 c1] [] pos) (tRepl y z to) := by
  intro pins s σ H Q h0 I h
  refine PySem.Call_method2 hbase hst hline (wpAny_mono (wpAny_toks_of h0 (ho pins s σ H _ h0 I h)) (fun v s1 ⟨h1, x, H1, I1, r1, a, ea, hb, q⟩ => ?_) fun _ _ z => z.2)
  subst ea
  obtain ⟨tx, e⟩ := r1
  subst e
  refine ⟨"str", _, F.plainAttrs_str, F.slot_str_replace, F.type_str_replace, typeIs_str _ _ _, (fun _ e => nomatch e), Calls.callWith_builtin rfl (Calls.evalArgs_plain (Calls.spliced_cons (Calls.Constant_str ?_)))⟩
  refine Calls.spliced_cons (Calls.Constant_str (Calls.spliced_nil ?_))
  exact PySem.SC.replace (show s1.toks ≠ 0 by omega) (show s1.toks + 1 ≠ 0 by omega) (show s1.toks ≠ s1.toks + 1 by omega) hyz hb fun t' k => ⟨.str (Txt.replace a y z), H1, I1.tok k, ⟨t', rfl⟩, q⟩
end
section
variable {K : PySem.W.Frag} {σ : L2.St} {H : Hp} {Q : VK} {ta te : TE} {tr : TA} {D : Ends} {x : V}
theorem x_callS {sp : Sp} {E : L2.St → XK} (h : tr σ H fun vs H1 => sp vs H1 Q (E σ)) : tCallS sp E tr σ H Q := h
theorem s_try {Wout : WX} {l : List (Value × (Addr → Value → Option Addr → TS))} {tb : WX → TS} (h : tb (wMany K Wout D l) D σ H) : tTry K Wout l tb D σ H := h
theorem s_raise {c : Value} {E : XK} (h : E c none H) : tRaise c E D σ H := h
theorem x_repl {y z : Str} (h : ta σ H fun x H1 => ∃ a : Str, x = .str a ∧ a.length + (a.length + 1) * z.length ≤ 16777216 ∧ Q (.str (Txt.replace a y z)) H1) : tRepl y z ta σ H Q := h
theorem x_disp {trs : List (TE × TE)} (h : ∀ p, H p = none → tPairs trs σ (upd H p (.dK [])) fun ps H2 => H2 p = some (.dK []) ∧ ∃ kvs : List (Key × V), ps = kvs.map (fun kv => (kV kv.1, kv.2)) ∧ kvs.length ≤ 15 ∧ Q (.ref p) (upd H2 p (.dK (mergeK [] kvs)))) : tDisp trs σ H Q := h
theorem w_hit {K : PySem.W.Frag} {Wout : WX} {D : Ends} {c cls : Value} {d : Option Addr} {ts : Addr → Value → Option Addr → TS} {r : List (Value × (Addr → Value → Option Addr → TS))} (e : PySem.W.exmOne K cls c = some true) (h : ∀ a, H a = none → ts a cls d D σ H) : wMany K Wout D ((c, ts) :: r) cls d σ H := ⟨true, e, (fun _ => h), (fun z => nomatch z)⟩
theorem w_miss {K : PySem.W.Frag} {Wout : WX} {D : Ends} {c cls : Value} {d : Option Addr} {ts : Addr → Value → Option Addr → TS} {r : List (Value × (Addr → Value → Option Addr → TS))} (e : PySem.W.exmOne K cls c = some false) (h : wMany K Wout D r cls d σ H) : wMany K Wout D ((c, ts) :: r) cls d σ H := ⟨false, e, (fun z => nomatch z), fun _ => h⟩
theorem ty_D {d : PyData} (h : Dp K H x d) (q : Q (.ty (tyName d)) H) : rTyp K [x] H Q := by
  cases h with
  | non => exact ty_N q
  | bl b => exact ty_B q
  | int i => exact ty_I q
  | str z => exact ty_S q
  | lst h _ => exact ty_L h q
  | tup h _ => exact ty_T h q
end
/-- one sign exchanged for a text, sign by sign -/
theorem repl_S (l : List Nat) (c : Nat) (z : List Nat) : Txt.replace (S l) (S [c]) (S z) = S (l.flatMap fun d => if d = c then z else [d]) := by
  have e := StrLaws.replace_list (x := S l) (y := S [c]) (z := S z) (Nat.le_refl 1)
  have e2 : (Txt.replace (S l) (S [c]) (S z)).cps.toList = l.flatMap fun d => if d = c then z else [d] := by
    rw [e]
    show StrLaws.replL [c] z l = _
    clear e
    induction l with
    | nil => exact StrLaws.replL_nil
    | cons d l ih =>
      rw [List.flatMap_cons]
      by_cases h : d = c
      · subst h
        rw [StrLaws.replL_hit (by simp) rfl, if_pos rfl]
        show z ++ StrLaws.replL [d] z l = _
        rw [ih]
      · rw [StrLaws.replL_miss (by simpa using h), if_neg h, ih]
        rfl
  rw [S_eta (Txt.replace (S l) (S [c]) (S z)), e2]
end My

set_option Elab.async false
set_option linter.all false
set_option maxRecDepth 100000
set_option maxHeartbeats 1000000
/-! ### heaps that change at two places; lists of drawn things; data -/
namespace My
open PySem PySem.Spec PyProof.Rows L2
section
variable {K : PySem.W.Frag}
def Frm (s g : Addr) (H H' : Hp) : Prop := ∀ a o, a ≠ s → a ≠ g → H a = some o → H' a = some o
theorem Frm.refl {s g : Addr} (H : Hp) : Frm s g H H := fun _ _ _ _ h => h
theorem Frm.trans {s g : Addr} {H1 H2 H3 : Hp} (a : Frm s g H1 H2) (b : Frm s g H2 H3) : Frm s g H1 H3 := fun x o h1 h2 h => b x o h1 h2 (a x o h1 h2 h)
theorem Frm.new {s g p : Addr} {H H' : Hp} {o : HO} (a : Frm s g H H') (h : H' p = none) : Frm s g H (upd H' p o) := fun x u h1 h2 e => by
  have e' := a x u h1 h2 e
  rw [upd_ne (ne_of_none e' h)]
  exact e'
theorem Frm.updS {s g : Addr} {H H' : Hp} {o : HO} (a : Frm s g H H') : Frm s g H (upd H' s o) := fun x u h1 h2 e => by
  rw [upd_ne h1]
  exact a x u h1 h2 e
theorem Frm.updG {s g : Addr} {H H' : Hp} {o : HO} (a : Frm s g H H') : Frm s g H (upd H' g o) := fun x u h1 h2 e => by
  rw [upd_ne h2]
  exact a x u h1 h2 e
theorem Frm.same {s g : Addr} {R H H' : Hp} (a : Frm s g H H') (e : Same R H) (hs : R s = none) (hg : R g = none) : Same R H' := fun x o h => a x o (fun z => by rw [z, hs] at h; cases h) (fun z => by rw [z, hg] at h; cases h) (e x o h)
theorem dp_ints {p : Addr} {H : Hp} (ns : List Int) (h : SqL K H p (ns.map V.int)) : Dp K H (.ref p) (.list (ns.map PyData.int)) := by
  refine .lst h ?_
  clear h
  induction ns with
  | nil => exact .nil
  | cons b bs ih => exact .cons (.int b) ih
theorem shaped_ints (ns : List Int) : SeqAt.shaped (.list (ns.map PyData.int)) = true := by
  have h1 : PyData.canLayAll0 (ns.map PyData.int) = true := by
    induction ns with
    | nil => rfl
    | cons b bs ih => simp [PyData.canLayAll0, PyData.canLay0, ih]
  have h2 : PyData.depthAll (ns.map PyData.int) ≤ 1 := by
    clear h1
    induction ns with
    | nil => simp [PyData.depthAll]
    | cons b bs ih =>
      simp only [List.map_cons, PyData.depthAll, PyData.depth] at *
      omega
  unfold SeqAt.shaped
  rw [Bool.and_eq_true]
  refine ⟨h1, decide_eq_true ?_⟩
  simp only [PyData.depth]
  omega
theorem log_40 {n : Int} (h0 : 0 < n) (h : n < 2 ^ 40) : n.natAbs.log2 < 9000 := by
  have h1 : n.natAbs < 2 ^ 40 := by omega
  exact Nat.lt_trans ((Nat.log2_lt (by omega)).mpr h1) (by decide)
theorem map_get {ns : List Int} {i : Nat} {x : V} (h : (ns.map V.int)[i]? = some x) : ∃ z, ns[i]? = some z ∧ x = .int z := by
  rw [List.getElem?_map] at h
  cases e : ns[i]? with
  | none => rw [e] at h; cases h
  | some z =>
    rw [e] at h
    exact ⟨z, rfl, (Option.some.inj h).symm⟩
theorem flat_len : ∀ {cs : List (List Nat)}, (∀ c ∈ cs, c.length = 1) → cs.flatten.length = cs.length
  | [], _ => rfl
  | c :: cs, h => by
    rw [List.flatten_cons, List.length_append, h c (List.mem_cons_self ..), flat_len fun d hd => h d (List.mem_cons_of_mem _ hd), List.length_cons]
    omega
theorem isT_flat {cs : List (List Nat)} (h : ∀ c ∈ cs, isT c = true) : isT cs.flatten = true := isT_of fun x hx => by
  obtain ⟨c, hc, hm⟩ := List.mem_flatten.mp hx
  exact isT_mem (h c hc) hm
theorem repl_len (k : Nat) (l : List Nat) : (List.replicate k l).flatten.length = k * l.length := by
  rw [List.length_flatten, List.map_replicate, List.sum_replicate_nat]
theorem isT_get {l : List Nat} (h : isT l = true) {i c : Nat} (hc : l[i]? = some c) : isT [c] = true := isT_of fun x hx => by
  rw [List.mem_singleton] at hx
  subst hx
  exact isT_mem h (List.mem_of_getElem? hc)
theorem Frm.of {s g : Addr} {H H' : Hp} (e : Same H H') : Frm s g H H' := fun a o _ _ h => e a o h
theorem Frm.mut {s g B : Addr} {H H' : Hp} {o : HO} (a : Frm s g H H') (hB : H B = none) : Frm s g H (upd H' B o) := fun x u h1 h2 e => by
  rw [upd_ne (ne_of_none e hB)]
  exact a x u h1 h2 e
def RngAll (lo hi : Int) (xs : List V) : Prop := ∀ x ∈ xs, ∃ i : Int, lo ≤ i ∧ i ≤ hi ∧ x = V.int i
theorem rng_nil {lo hi : Int} : RngAll lo hi [] := fun _ h => by cases h
theorem rng_cons {lo hi i : Int} {xs : List V} (h0 : lo ≤ i) (h1 : i ≤ hi) (h : RngAll lo hi xs) : RngAll lo hi (.int i :: xs) := fun x hx => by
  rcases List.mem_cons.mp hx with rfl | hx
  · exact ⟨i, h0, h1, rfl⟩
  · exact h x hx
theorem ix_rng {H : Hp} {Q : VK} {p : Addr} {zs : List V} {lo hi : Int} {i : Int} (hp : SqL K H p zs) (ha : RngAll lo hi zs) (h0 : 0 ≤ i) (h1 : i < (zs.length : Int)) (q : ∀ z : Int, lo ≤ z → z ≤ hi → Q (.int z) H) : rIX K (.ref p) (.int i) H Q := by
  refine ix_L hp (at_in h0 h1) ?_
  have hi : i.toNat < zs.length := by omega
  obtain ⟨z, a, b, e⟩ := ha zs[i.toNat] (List.getElem_mem hi)
  rw [e]
  exact q z a b
theorem rep1 (k c : Nat) : (List.replicate k [c]).flatten = List.replicate k c := by
  induction k with
  | zero => rfl
  | succ k ih => rw [List.replicate_succ, List.flatten_cons, ih]; rfl
theorem rep1_isT {k c : Nat} (h : isT [c] = true) : isT (List.replicate k c) = true := isT_of fun x hx => by
  rw [(List.mem_replicate.mp hx).2]
  exact isT_mem h (List.mem_singleton.mpr rfl)
def menu1 : List Nat := [32, 33, 34, 35, 36, 38, 39, 40, 41, 42, 43, 44, 45, 46, 47, 48, 49, 50, 51, 52, 53, 54, 55, 56, 57, 58, 59, 60, 61, 62, 63, 64, 65, 66, 67, 68, 69, 70, 71, 72, 73, 74, 75, 76, 77, 78, 79, 80, 81, 82, 83, 84, 85, 86, 87, 88, 89, 90, 91, 92, 93, 94, 95, 96]
def menu2 : List Nat := [97, 98, 99, 100, 101, 102, 103, 104, 105, 106, 107, 108, 109, 110, 111, 112, 113, 114, 115, 116, 117, 118, 119, 120, 121, 122, 123, 124, 125, 126]
theorem digit_code {n : Nat} : ∀ c ∈ (Nat.toDigits 10 n).map Char.toNat, 48 ≤ c ∧ c ≤ 57 := by
  intro c hc
  have h1 : n < 10 ^ (n + 1) := Nat.lt_trans (Nat.lt_succ_self n) (Nat.lt_pow_self (by decide))
  have h2 := figs_isD (n + 1) n
  rw [← pad_figs (n + 1) n h1 (Nat.succ_pos _)] at h2
  have h3 := List.all_eq_true.mp h2 c (List.mem_append_right _ hc)
  rw [Bool.and_eq_true, decide_eq_true_eq, decide_eq_true_eq] at h3
  exact h3
theorem zf_num (w n : Nat) : Txt.zfill (Str.ofString (toString (n : Int))) (w : Int) = S (pad w n) := by
  rw [SX.num_S, numL_eq]
  unfold Txt.zfill pad
  have hl : (S ((Nat.toDigits 10 n).map Char.toNat)).length = (Nat.toDigits 10 n).length := by rw [S_len, List.length_map]
  show (if (w : Int) ≤ (S ((Nat.toDigits 10 n).map Char.toNat)).length then S ((Nat.toDigits 10 n).map Char.toNat) else zfilled (S ((Nat.toDigits 10 n).map Char.toNat)) ((w : Int).toNat - (S ((Nat.toDigits 10 n).map Char.toNat)).length)) = _
  rw [hl]
  by_cases h : (w : Int) ≤ (Nat.toDigits 10 n).length
  · rw [if_pos h, show w - (Nat.toDigits 10 n).length = 0 by omega]
    rfl
  · rw [if_neg h, Int.toNat_natCast]
    have hd := digit_code (n := n)
    generalize (Nat.toDigits 10 n).map Char.toNat = l at hd
    generalize w - (Nat.toDigits 10 n).length = k
    have e : zfilled (S l) k = Builtin.Str.padded (S l) k 0 48 := by
      unfold zfilled
      have h0 : ∀ c, (S l).cps[0]? = some c → 48 ≤ c := fun c hc => by
        have : l[0]? = some c := by
          have e : (S l).cps = l.toArray := rfl
          rw [e] at hc
          simpa using hc
        exact (hd c (List.mem_of_getElem? this)).1
      split
      · rename_i h
        exact absurd (h0 43 h) (by decide)
      · rename_i h
        exact absurd (h0 45 h) (by decide)
      · rfl
    rw [e]
    show (⟨_⟩ : Str) = ⟨_⟩
    congr 1
    apply Array.ext'
    simp
theorem log_small {n : Nat} (h : n < 1000000) : ((n : Int).natAbs).log2 < 1920 := by
  rw [Int.natAbs_natCast]
  by_cases h0 : n = 0
  · subst h0; decide
  · exact Nat.lt_of_lt_of_le ((Nat.log2_lt h0).mpr (show n < 2 ^ 20 by omega)) (by decide)
def tv (ls : List (List Nat)) : List V := ls.map fun l => V.str (S l)
theorem tv_len (ls : List (List Nat)) : (tv ls).length = ls.length := List.length_map ..
theorem tv_app (a b : List (List Nat)) : tv (a ++ b) = tv a ++ tv b := List.map_append ..
theorem tv_eq (ls : List (List Nat)) : tv ls = (ls.map S).map V.str := by
  unfold tv
  rw [List.map_map]
  rfl
theorem take_snoc {α : Type} {xs : List α} {i : Nat} {x : α} (h : xs[i]? = some x) : xs.take (i + 1) = xs.take i ++ [x] := by
  rw [List.take_add_one, h]
  rfl
theorem pad_le {w n : Nat} (h : n < 1000000) : (pad w n).length ≤ w + 6 := by
  unfold pad
  have h1 := toDigits_len10 (w := 6) (n := n) (by omega) (by decide)
  rw [List.length_append, List.length_replicate, List.length_map]
  omega
theorem flat_le {n : Nat} : ∀ {cs : List (List Nat)}, (∀ c ∈ cs, c.length ≤ n) → cs.flatten.length ≤ n * cs.length
  | [], _ => Nat.zero_le _
  | c :: cs, h => by
    rw [List.flatten_cons, List.length_append, List.length_cons, Nat.mul_add, Nat.mul_one]
    have h1 := h c (List.mem_cons_self ..)
    have h2 := flat_le fun d hd => h d (List.mem_cons_of_mem _ hd)
    omega
theorem sz {k : Nat} (h : k ≤ 200000) : k ≤ sizeLine := Nat.le_trans h (by decide)
theorem dp_tup2 {H : Hp} {x : V} {a b : PyData} (h : Dp K H x (.tuple [a, b])) : ∃ p u v, x = .ref p ∧ SqT K H p [u, v] ∧ Dp K H u a ∧ Dp K H v b := by
  cases h with
  | tup hs ha =>
    cases ha with
    | cons h1 ha =>
      cases ha with
      | cons h2 ha =>
        cases ha
        exact ⟨_, _, _, rfl, hs, h1, h2⟩
theorem dp_tup3 {H : Hp} {x : V} {a b c : PyData} (h : Dp K H x (.tuple [a, b, c])) : ∃ p u v z, x = .ref p ∧ SqT K H p [u, v, z] ∧ Dp K H u a ∧ Dp K H v b ∧ Dp K H z c := by
  cases h with
  | tup hs ha =>
    cases ha with
    | cons h1 ha =>
      cases ha with
      | cons h2 ha =>
        cases ha with
        | cons h3 ha =>
          cases ha
          exact ⟨_, _, _, _, rfl, hs, h1, h2, h3⟩
theorem dp_str' {H : Hp} {x : V} {z : Str} (h : Dp K H x (.str z)) : x = .str z := by
  cases h
  rfl
theorem dp_int' {H : Hp} {x : V} {z : Int} (h : Dp K H x (.int z)) : x = .int z := by
  cases h
  rfl
theorem dp_tup' {H : Hp} {x : V} {ds : List PyData} (h : Dp K H x (.tuple ds)) : ∃ p us, x = .ref p ∧ SqT K H p us ∧ DpAll K H us ds := by
  cases h with
  | tup hs ha => exact ⟨_, _, rfl, hs, ha⟩
theorem all_at {α : Type} {F : α → PyData} {H : Hp} {us : List V} {xs : List α} (h : DpAll K H us (xs.map F)) {i : Nat} {x : V} (hx : us[i]? = some x) : ∃ a, xs[i]? = some a ∧ Dp K H x (F a) := by
  have hl := dpAll_len h
  rw [List.length_map] at hl
  have hi : i < xs.length := by rw [← hl]; exact (List.getElem?_eq_some_iff.mp hx).1
  obtain ⟨v, hv, hd⟩ := dpAll_get h (i := i) (by rw [List.length_map]; exact hi)
  rw [hx] at hv
  cases hv
  rw [List.getElem_map] at hd
  exact ⟨xs[i], List.getElem?_eq_getElem hi, hd⟩
def isBo : PyData → Bool | .bool _ => true | _ => false
def isIn : PyData → Bool | .bool _ => true | .int _ => true | _ => false
def isSt : PyData → Bool | .str _ => true | _ => false
def isTu : PyData → Bool | .tuple _ => true | _ => false
def isLi : PyData → Bool | .list _ => true | _ => false
def isNo : PyData → Bool | .none => true | _ => false
theorem kit_bo {H : Hp} {x : V} {d : PyData} (h : Dp K H x d) : kitB (tyName d) "bool" = some (isBo d) := by cases h <;> first | rfl | decide +kernel
theorem kit_in {H : Hp} {x : V} {d : PyData} (h : Dp K H x d) : kitB (tyName d) "int" = some (isIn d) := by cases h <;> first | rfl | decide +kernel
theorem kit_st {H : Hp} {x : V} {d : PyData} (h : Dp K H x d) : kitB (tyName d) "str" = some (isSt d) := by cases h <;> first | rfl | decide +kernel
theorem kit_tu {H : Hp} {x : V} {d : PyData} (h : Dp K H x d) : kitB (tyName d) "tuple" = some (isTu d) := by cases h <;> first | rfl | decide +kernel
theorem kit_li {H : Hp} {x : V} {d : PyData} (h : Dp K H x d) : kitB (tyName d) "list" = some (isLi d) := by cases h <;> first | rfl | decide +kernel
theorem non_d {H : Hp} {x : V} {d : PyData} (h : Dp K H x d) : decide (x = .non) = isNo d := by cases h <;> rfl
def Up (F : PyData → Prop) : PyData → Prop
  | .list ds => ds.length ≤ 100000 ∧ ∀ e ∈ ds, F e
  | .tuple ds => ds.length ≤ 100000 ∧ ∀ e ∈ ds, F e
  | d => SeqAt.shaped d = true
def Fine : Nat → PyData → Prop
  | 0 => Up fun _ => False
  | n + 1 => Up (Fine n)
def SqX (K : PySem.W.Frag) (H : Hp) (p : Addr) (xs : List V) : Prop := SqL K H p xs ∨ SqT K H p xs
theorem SqX.mono {H H' : Hp} {p : Addr} {xs : List V} (e : Same H H') (h : SqX K H p xs) : SqX K H' p xs := h.elim (fun h => .inl (e.seq h)) fun h => .inr (same_sqt e h)
theorem ix_X {H : Hp} {Q : VK} {p : Addr} {xs : List V} {i : Int} {v : V} (h : SqX K H p xs) (ha : atI xs i = some v) (q : Q v H) : rIX K (.ref p) (.int i) H Q := h.elim (fun h => ix_L h ha q) fun h => ix_T h ha q
theorem ln_X {H : Hp} {Q : VK} {p : Addr} {xs : List V} (h : SqX K H p xs) (q : Q (.int xs.length) H) : rLEN K [.ref p] H Q := h.elim (fun h => ln_l h q) fun h => ln_t h q
def numAt (l : List Nat) (a k : Nat) : Option Nat := if ((l.take (a + k)).drop a).length = k ∧ k ≠ 0 ∧ isD ((l.take (a + k)).drop a) = true then some (NumText.digitsVal ((l.take (a + k)).drop a)) else none
inductive NumV : Option Nat → V → Prop where
  | some (n : Nat) : NumV (some n) (.int n)
  | none : NumV none .non
theorem mem_fig (c : Nat) : c ∈ [48, 49, 50, 51, 52, 53, 54, 55, 56, 57] ↔ 48 ≤ c ∧ c ≤ 57 := by
  simp only [List.mem_cons, List.not_mem_nil, or_false]
  omega
theorem isD_snoc {l : List Nat} {i c : Nat} (h : l[i]? = some c) : isD (l.take (i + 1)) = (isD (l.take i) && (decide (48 ≤ c) && decide (c ≤ 57))) := by
  rw [List.take_add_one, h]
  unfold isD
  show List.all (_ ++ [c]) _ = _
  rw [List.all_append]
  simp
theorem eqv_ints (ns : List Int) : PyData.eqv (.list (ns.map PyData.int)) (.list []) = decide (ns = []) := by
  cases ns with
  | nil => rfl
  | cons n ns =>
    rw [decide_eq_false (by intro h; cases h)]
    rfl
theorem dp_strs (H : Hp) : ∀ ls : List (List Nat), DpAll K H (tv ls) (ls.map fun l => PyData.str (S l))
  | [] => .nil
  | l :: ls => .cons (.str _) (dp_strs H ls)
def AllT (ls : List (List Nat)) : Prop := ∀ l ∈ ls, isT l = true
theorem shaped_strs (ls : List (List Nat)) (h : AllT ls) : SeqAt.shaped (.list (ls.map fun l => PyData.str (S l))) = true := by
  have h1 : PyData.canLayAll0 (ls.map fun l => PyData.str (S l)) = true := by
    induction ls with
    | nil => rfl
    | cons b bs ih =>
      have hb : PyData.strOk (S b) = true := by
        unfold PyData.strOk
        rw [← Array.all_toList, S_cps, List.all_eq_true]
        intro c hc
        have := isT_mem (h b (List.mem_cons_self ..)) hc
        exact decide_eq_true (by omega)
      simp [PyData.canLayAll0, PyData.canLay0, ih fun l hl => h l (List.mem_cons_of_mem _ hl), hb]
  have h2 : PyData.depthAll (ls.map fun l => PyData.str (S l)) ≤ 1 := by
    clear h1 h
    induction ls with
    | nil => simp [PyData.depthAll]
    | cons b bs ih =>
      simp only [List.map_cons, PyData.depthAll, PyData.depth] at *
      omega
  unfold SeqAt.shaped
  rw [Bool.and_eq_true]
  refine ⟨h1, decide_eq_true ?_⟩
  simp only [PyData.depth]
  omega
theorem eqv_strs (ls : List (List Nat)) : PyData.eqv (.list (ls.map fun l => PyData.str (S l))) (.list []) = decide (ls = []) := by
  cases ls with
  | nil => rfl
  | cons n ns =>
    rw [decide_eq_false (by intro h; cases h)]
    rfl
theorem mid {A B C : List Nat} {i j : Nat} (hi : A.length = i) (hj : i + B.length = j) : ((A ++ (B ++ C)).take j).drop i = B := by
  rw [← List.append_assoc, List.take_left' (by rw [List.length_append, hi]; exact hj), List.drop_left' hi]
theorem numAt_mid {A B C : List Nat} {a k : Nat} (ha : A.length = a) (hk : B.length = k) (h0 : k ≠ 0) (hD : isD B = true) : numAt (A ++ (B ++ C)) a k = some (NumText.digitsVal B) := by
  unfold numAt
  rw [mid ha (by rw [hk]), if_pos ⟨hk, h0, hD⟩]
theorem numAt_pad {A C : List Nat} {a w n : Nat} (ha : A.length = a) (h0 : w ≠ 0) (hn : n < 10 ^ w) : numAt (A ++ (pad w n ++ C)) a w = some n := by
  rw [pad_figs w n hn (Nat.pos_of_ne_zero h0), numAt_mid ha (figs_len w n) h0 (figs_isD w n), digitsVal_figs w n hn]
theorem pad_lenW {w n : Nat} (h0 : w ≠ 0) (hn : n < 10 ^ w) : (pad w n).length = w := by
  rw [pad_figs w n hn (Nat.pos_of_ne_zero h0), figs_len]
def kv (ks : List Nat) : List V := ks.map fun k : Nat => V.int k
theorem kv_app (a b : List Nat) : kv (a ++ b) = kv a ++ kv b := List.map_append ..
theorem kv_len (a : List Nat) : (kv a).length = a.length := List.length_map ..
theorem dp_kv (H : Hp) : ∀ ks : List Nat, DpAll K H (kv ks) (ks.map fun k : Nat => PyData.int k)
  | [] => .nil
  | k :: ks => .cons (.int _) (dp_kv H ks)
theorem shaped_str {l : List Nat} (h : isT l = true) : SeqAt.shaped (.str (S l)) = true := by
  have hb : PyData.strOk (S l) = true := by
    unfold PyData.strOk
    rw [← Array.all_toList, S_cps, List.all_eq_true]
    intro c hc
    have := isT_mem h hc
    exact decide_eq_true (by omega)
  unfold SeqAt.shaped
  simp [PyData.canLay0, PyData.depth, hb]
theorem fine_str {l : List Nat} (h : isT l = true) : ∀ n, Fine n (.str (S l))
  | 0 => shaped_str h
  | _ + 1 => shaped_str h
theorem fine_int (i : Int) : ∀ n, Fine n (.int i)
  | 0 => by show SeqAt.shaped (.int i) = true; simp [SeqAt.shaped, PyData.canLay0, PyData.depth]
  | _ + 1 => by show SeqAt.shaped (.int i) = true; simp [SeqAt.shaped, PyData.canLay0, PyData.depth]
theorem fine_non : ∀ n, Fine n .none
  | 0 => by show SeqAt.shaped .none = true; simp [SeqAt.shaped, PyData.canLay0, PyData.depth]
  | _ + 1 => by show SeqAt.shaped .none = true; simp [SeqAt.shaped, PyData.canLay0, PyData.depth]
theorem fine_tup {n : Nat} {ds : List PyData} (hl : ds.length ≤ 100000) (h : ∀ e ∈ ds, Fine n e) : Fine (n + 1) (.tuple ds) := ⟨hl, h⟩
theorem fine_lst {n : Nat} {ds : List PyData} (hl : ds.length ≤ 100000) (h : ∀ e ∈ ds, Fine n e) : Fine (n + 1) (.list ds) := ⟨hl, h⟩
theorem all2 {α : Type} {F : α → Prop} {a b : α} (h1 : F a) (h2 : F b) : ∀ e ∈ [a, b], F e := fun e he => by
  rcases List.mem_cons.mp he with rfl | he
  · exact h1
  · rw [List.mem_singleton.mp he]; exact h2
theorem all3 {α : Type} {F : α → Prop} {a b c : α} (h1 : F a) (h2 : F b) (h3 : F c) : ∀ e ∈ [a, b, c], F e := fun e he => by
  rcases List.mem_cons.mp he with rfl | he
  · exact h1
  · exact all2 h2 h3 e he
theorem pad_T {w n : Nat} (h0 : w ≠ 0) (hn : n < 10 ^ w) : isT (pad w n) = true := by
  rw [pad_figs w n hn (Nat.pos_of_ne_zero h0)]
  exact isD_isT (figs_isD w n)
theorem flat_eq {n : Nat} : ∀ {cs : List (List Nat)}, (∀ c ∈ cs, c.length = n) → cs.flatten.length = n * cs.length
  | [], _ => rfl
  | c :: cs, h => by
    rw [List.flatten_cons, List.length_append, List.length_cons, Nat.mul_add, Nat.mul_one]
    have h1 := h c (List.mem_cons_self ..)
    have h2 := flat_eq fun d hd => h d (List.mem_cons_of_mem _ hd)
    omega
end
end My

set_option Elab.async false
set_option linter.all false
set_option maxRecDepth 100000
set_option maxHeartbeats 1000000
/-! ### tuples turned about; dicts that are sorted -/
namespace My
open PySem PySem.Spec PyProof.Rows L2 PySem.MeetsSeq PySem.MeetsSeq2 PySem.MeetsSeq3
theorem adjust_rev (n : Nat) : Builtin.Slice.sliceAdjust none none (-1) (n : Int) = ((n : Int) - 1, -1) := by
  unfold Builtin.Slice.sliceAdjust
  simp only [show ((-1 : Int) < 0) by decide, if_true]
theorem places_rev (n : Nat) : Builtin.Slice.slicePlaces ((n : Int) - 1) (-1) (-1) = n := by
  unfold Builtin.Slice.slicePlaces
  simp only [show ¬ ((-1 : Int) > 0) by decide, if_false, Int.neg_neg, Int.ediv_one]
  split <;> omega
theorem pick_rev (xs : Array Value) : ((List.range xs.size).filterMap fun (m : Nat) => xs[(((xs.size : Int) - 1) + (m : Int) * (-1)).toNat]?).toArray = xs.toList.reverse.toArray := by
  congr 1
  have e1 : ∀ (ms : List Nat), (∀ m ∈ ms, m < xs.size) → ms.filterMap (fun (m : Nat) => xs[(((xs.size : Int) - 1) + (m : Int) * (-1)).toNat]?) = ms.filterMap (fun (m : Nat) => xs.toList.reverse.toArray[m]?) := by
    intro ms
    induction ms with
    | nil => intro _; rfl
    | cons m ms ih =>
      intro hm
      have h3 : m < xs.size := hm m (List.mem_cons_self ..)
      have h4 : (((xs.size : Int) - 1) + (m : Int) * (-1)).toNat = xs.size - 1 - m := by omega
      have h5 : xs[(((xs.size : Int) - 1) + (m : Int) * (-1)).toNat]? = xs.toList.reverse.toArray[m]? := by
        have a1 : xs.toList.reverse.toArray[m]? = xs.toList.reverse[m]? := by simp
        have a2 : xs.toList.reverse[m]? = xs.toList[xs.toList.length - 1 - m]? := List.getElem?_reverse (by rw [Array.length_toList]; exact h3)
        rw [h4, a1, a2, Array.length_toList, Array.getElem?_toList]
      rw [List.filterMap_cons, List.filterMap_cons, h5, ih fun x hx => hm x (List.mem_cons_of_mem _ hx)]
  rw [e1 _ fun m hm => List.mem_range.mp hm]
  have e2 := pick_run xs.toList.reverse.toArray 0 xs.size
  rw [show (List.range xs.size).map (0 + ·) = List.range xs.size by simp] at e2
  rw [e2, List.drop_zero]
  show xs.toList.reverse.take xs.size = _
  exact List.take_of_length_le (by rw [List.length_reverse, Array.length_toList]; exact Nat.le_refl _)
section
variable {prog : Program} {w : World} {A : Around} {E : Value → Shared → Prop} {s : Shared}
theorem sliceApplied_rev {sl : Addr} {vs : Value} {n : Nat} {Q : Int × Int × Nat → Shared → Prop} (hs : s.heap.IsSliceOf sl .none .none vs) (ps : IsPart vs (some (-1)))
    (h : Q ((n : Int) - 1, -1, n) s) : wpAny (model prog w) A (Builtin.Slice.sliceApplied (.ref sl) (pure (n : Int))) Q E s := by
  obtain ⟨os, hos, hcs, hds⟩ := id hs
  unfold Builtin.Slice.sliceApplied Builtin.Slice.sliceFields
  refine wpAny_bind (wpAny_bind (wpAny_field hos hds (x := .none) rfl (wpAny_bind (wpAny_field hos hds (x := .none) rfl (wpAny_bind (wpAny_field hos hds (x := vs) rfl (wpAny_pure ?_)))))))
  refine wpAny_bind (HT.slicePart_ ps ?_)
  show wpAny _ _ (if ((-1 : Int) == 0) = true then _ else _) _ _ s
  rw [if_neg (by decide)]
  refine wpAny_bind (HT.slicePart_ .none (wpAny_bind (HT.slicePart_ .none (wpAny_bind (wpAny_pure ?_)))))
  show wpAny _ _ (match Builtin.Slice.sliceAdjust none none (-1) (n : Int) with | (lo, hi) => pure (lo, (-1 : Int), Builtin.Slice.slicePlaces lo hi (-1))) _ _ s
  rw [adjust_rev n]
  show wpAny _ _ (pure ((n : Int) - 1, (-1 : Int), Builtin.Slice.slicePlaces ((n : Int) - 1) (-1) (-1))) _ _ s
  rw [places_rev]
  exact wpAny_pure h
theorem getItem_tuple_rev {t sl : Addr} {items : Array Value} {vs : Value} {Q : Value → Shared → Prop} (ht : IsTup s.heap t items) (hs : s.heap.IsSliceOf sl .none .none vs) (ps : IsPart vs (some (-1)))
    (h : Q (.ref s.heap.objs.size) { s with heap := s.heap.push { cls := .type "tuple", data := .seq items.toList.reverse.toArray } })
    (hsz : items.size ≤ sizeLine) : wpAny (model prog w) A (getItem (.ref t) (.ref sl)) Q E s := by
  have htake : sizeOk (.seq items.toList.reverse.toArray) := by
    show items.toList.reverse.toArray.size ≤ sizeLine
    rw [List.size_toArray, List.length_reverse, Array.length_toList]
    exact hsz
  obtain ⟨os, hos, hcs, hds⟩ := id hs
  have hTs : s.TypeIs (.ref sl) "slice" := ⟨os, hos, hcs⟩
  unfold getItem
  try with_reducible refine wpAny_holding ?_
  first | refine wpAny_bind (wpAny_pure ?_) | skip
  refine wpAny_bind (wpAny_sequenceKey ht.typeIs (by decide) ?_)
  refine wpAny_bind (wpAny_callSpecial?_slot (name := Str.ofString "__getitem__") ht.typeIs PyProof.Rows.slot_tuple_getitem
    (wpAny_call_entry PyProof.Rows.slot_tuple_getitem ht.typeIs entry_tuple_getitem ?_ (args_tuple_getitem _ _)))
  show wpAny _ _ (Builtin.Tuple.tupleItemsOf (.ref t) >>= _) _ _ s
  refine wpAny_bind (tupleItemsOf_ ht ?_)
  refine wpAny_bind (wpAny_typeOf hTs ?_)
  rw [if_pos (by decide)]
  refine wpAny_bind (sliceApplied_rev hs ps ?_)
  have hno : ¬ ((((items.size : Int) - 1) == 0 && (-1 : Int) == 1 && items.size == items.size) = true) := by
    intro q
    rw [Bool.and_eq_true, Bool.and_eq_true] at q
    exact absurd (eq_of_beq q.1.2) (by decide)
  show wpAny _ _ (if (((items.size : Int) - 1) == 0 && (-1 : Int) == 1 && items.size == items.size) = true then _ else _) _ _ s
  rw [if_neg hno, pick_rev]
  first
    | exact wpAny_bind (m := Builtin.Tuple.tupleExact _) (wpAny_newObj_type (wpAny_pure ⟨_, rfl, wpAny_pure h⟩) htake)
    | exact wpAny_bind (m := Builtin.Tuple.tupleExact _) (wpAny_newObj_type (wpAny_bind (wpAny_pure (wpAny_pure ⟨_, rfl, wpAny_pure h⟩))) htake)
    | exact wpAny_bind (wpAny_bind (m := Builtin.Tuple.tupleExact _) (wpAny_newObj_type (wpAny_pure (wpAny_pure ⟨_, rfl, wpAny_pure h⟩)) htake))
    | exact wpAny_bind (wpAny_bind (m := Builtin.Tuple.tupleExact _) (wpAny_newObj_type (wpAny_pure ⟨_, rfl, wpAny_pure h⟩) htake))
end
/-- t[::-1] -/
def tRevT (K : PySem.W.Frag) (te : TE) : TE := fun σ H Q => te σ H fun x H1 => ∃ a xs, x = .ref a ∧ SqT K H1 a xs ∧ ∀ p, H1 p = none → Q (.ref p) (upd H1 p (.tup xs.reverse))
theorem x_revT {K : PySem.W.Frag} {σ : L2.St} {H : Hp} {Q : VK} {te : TE} (h : te σ H fun x H1 => ∃ a xs, x = .ref a ∧ SqT K H1 a xs ∧ ∀ p, H1 p = none → Q (.ref p) (upd H1 p (.tup xs.reverse))) : tRevT K te σ H Q := h
section
variable {X : Cx}
theorem pe_revT {e : Expr} {te : TE} {k : Nat} {p1 p2 p3 pos : Pos} (he : PE X e te) : PE X (.Subscript e (.Slice none none (some (.UnaryOp .USub (.Constant (.int 1) k p1) p2)) p3) pos) (tRevT X.K te) := by
  refine ⟨fun pins s σ H Q I h => ?_⟩
  refine Subscript_ (thn (he.run pins s σ H _ I h) fun v s1 ⟨x, H1, I1, r1, q1⟩ => ?_)
  obtain ⟨a, xs, ex, hx, q⟩ := q1
  subst ex
  cases r1
  have hst : PO X (some (.UnaryOp .USub (.Constant (.int 1) k p1) p2)) (tPart (tUn (rU fun i => .int (-i)) (tC (.int 1)))) := po_some (pe_un un_neg pe_int)
  refine wpAny_Slice (thn (po_none.run pins s1 σ H1 (fun o H2 => o = none ∧ H2 = H1) I1 ⟨rfl, rfl⟩) fun vl s2 ⟨l, H2, I2, pl, el, e2⟩ => ?_)
  subst el e2
  refine thn (po_none.run pins s2 σ H2 (fun o H3 => o = none ∧ H3 = H2) I2 ⟨rfl, rfl⟩) fun vu s3 ⟨u, H3, I3, pu, eu, e3⟩ => ?_
  subst eu e3
  refine thn (hst.run pins s3 σ H3 (fun o H4 => o = some (-1) ∧ H4 = H3) I3 ⟨1, rfl, -1, rfl, rfl, rfl⟩) fun vs s4 ⟨o, H4, I4, ps, eo, e4⟩ => ?_
  subst eo e4
  cases pl
  cases pu
  have I5 : Inv X pins σ H4 { s4 with heap := s4.heap.push { cls := .type "slice", data := .fields #[.none, .none, vs] } } := I4.kept (t' := s4.toks) fun b ob q => Heap.get?_push_of_some _ q
  obtain ⟨its, r, ht, hz⟩ := I5.tuple hx
  have hlen := r.length
  show wpAny (model X.prog X.w) X.A (subscriptTail e (.Slice none none (some (.UnaryOp .USub (.Constant (.int 1) k p1) p2)) p3) (.ref a) (.ref s4.heap.objs.size)) (EP X pins σ Q) X.xe { s4 with heap := s4.heap.push { cls := .type "slice", data := .fields #[.none, .none, vs] } }
  refine tail_any (ops := [.ref a, .ref s4.heap.objs.size]) ht.typeIs (PyProof.Rows.slot_tuple_getitem.lookup) ?_ (by with_unfolding_all rfl)
  refine getItem_tuple_rev ht (Heap.IsSliceOf.new _ .none .none vs) ps ?_ (by rw [List.size_toArray]; omega)
  refine ⟨.ref _, _, I5.laid (t' := s4.toks) (o := .tup xs.reverse) (fun b ob q => Heap.get?_push_of_some _ q) (Nat.le_refl _) ?_, rfl, q _ (I5.hok.fresh (Nat.le_refl _))⟩
  exact ⟨by rw [List.length_reverse]; exact hz, _, r.reverse, IsTup.new _ _⟩
/-- sorted(d), d a dict of texts -/
def rSortD : List V → Hp → VK → Prop := fun xs H Q => ∃ (a : Addr) (kvs : List (Key × V)) (ks : List Str), xs = [.ref a] ∧ Rd H a (.dK kvs) ∧ kvs.map (·.1) = ks.map Sum.inr ∧ ks.length < 64 ∧ ∀ ys p, ys.Perm ks → sortedS ys = true → H p = none → Q (.ref p) (upd H p (.lst (ys.map V.str)))
theorem call_SORTD (hc : X.calm = true) : CallR X (.builtin "sorted") rSortD := call_sortedD hc
end
section
variable {K : PySem.W.Frag} {σ : L2.St} {H : Hp} {Q : VK} {td ty tv : TE} {n b k : L2.St → Hp → Prop} {rt : VK}
theorem s_dput (h : tv σ H fun v H1 => td σ H1 fun x H2 => ty σ H2 fun y H3 => ∃ a H4, x = .ref a ∧ DPut H3 a y v H4 ∧ n σ H4) : sDPut td ty tv ⟨n, rt, b, k⟩ σ H := h
theorem x_dget (h : td σ H fun x H1 => ty σ H1 fun y H2 => ∃ a v, x = .ref a ∧ DGet H2 a y (some v) ∧ Q v H2) : tDGet td ty σ H Q := h
theorem x_dnew (h : ∀ p, H p = none → Q (.ref p) (upd H p (.dK []))) : tDNewK σ H Q := h
end
end My

set_option Elab.async false
set_option linter.all false
set_option maxRecDepth 100000
set_option maxHeartbeats 1000000
/-! ### dicts: membership, walks, comprehensions; sorted by reverse; heaps with some objects left aside -/
namespace My
open PySem PySem.Spec PyProof.Rows L2
/-! #### two texts in their order -/
theorem txt_tri : ∀ {a b : List Nat}, ¬ b < a → a ≠ b → a < b
  | [], [], _, h2 => absurd rfl h2
  | [], _ :: _, _, _ => List.nil_lt_cons ..
  | _ :: _, [], h1, _ => absurd (List.nil_lt_cons ..) h1
  | x :: a, y :: b, h1, h2 => by
    rw [List.cons_lt_cons_iff] at h1 ⊢
    by_cases hxy : x = y
    · subst hxy
      exact .inr ⟨rfl, txt_tri (fun h => h1 (.inr ⟨rfl, h⟩)) (fun h => h2 (by rw [h]))⟩
    · exact .inl (by have : ¬ y < x := fun h => h1 (.inl h); omega)
theorem txt_irr : ∀ {a : List Nat}, ¬ a < a
  | [], h => by cases h
  | x :: a, h => by
    rw [List.cons_lt_cons_iff] at h
    rcases h with h | ⟨_, h⟩
    · exact absurd h (Nat.lt_irrefl x)
    · exact txt_irr h
theorem txt_trans : ∀ {a b c : List Nat}, a < b → b < c → a < c
  | _, _, [], _, h2 => by cases h2
  | [], _, z :: c, _, _ => List.nil_lt_cons ..
  | x :: a, [], _, h1, _ => by cases h1
  | x :: a, y :: b, z :: c, h1, h2 => by
    rw [List.cons_lt_cons_iff] at h1 h2 ⊢
    rcases h1 with h1 | ⟨rfl, h1⟩
    · rcases h2 with h2 | ⟨rfl, h2⟩
      · exact .inl (Nat.lt_trans h1 h2)
      · exact .inl h1
    · rcases h2 with h2 | ⟨rfl, h2⟩
      · exact .inl h2
      · exact .inr ⟨rfl, txt_trans h1 h2⟩
def svV : Value → List Nat
  | .str x _ => x.cps.toList
  | _ => []
def ltSv (v u : Value) : Bool := decide (svV v < svV u)
theorem swo_str : SrtO.Swo ltSv := by
  refine ⟨fun x y h => ?_, fun x y z h1 h2 => ?_⟩
  · have a := of_decide_eq_true (p := svV x < svV y) h
    exact decide_eq_false (p := svV y < svV x) fun b => txt_irr (txt_trans a b)
  · have a := of_decide_eq_false (p := svV y < svV x) h1
    have b := of_decide_eq_false (p := svV z < svV y) h2
    refine decide_eq_false (p := svV z < svV x) fun c => ?_
    by_cases e : svV x = svV y
    · exact b (by rw [← e]; exact c)
    · exact b (txt_trans c (txt_tri a e))
theorem strs_memV : ∀ {vs : List Value} {ns : List Str}, StrsAre vs ns → ∀ v ∈ vs, ∃ x t, v = Value.str x t
  | _, _, .nil, v, hv => by cases hv
  | _, _, .cons x t r, v, hv => by
    rcases List.mem_cons.mp hv with e | hv
    · exact ⟨x, t, e⟩
    · exact strs_memV r v hv
section
variable {prog : Program} {w : World} {A : Around} {E : Value → Shared → Prop} {s : Shared}
theorem str_cmp {vs : List Value} {ns : List Str} (hI : StrsAre vs ns) : SrtO.Cmp prog w A s oneType' (fun p => p.1 ∈ vs) (SrtO.lt2 ltSv) := by
  intro p q hm hm'
  obtain ⟨a, t, e⟩ := strs_memV hI _ hm
  obtain ⟨b, u, e'⟩ := strs_memV hI _ hm'
  show wpAny (model prog w) A (keyLt' oneType' p.1 q.1) (fun r s' => s' = s ∧ r = ltSv p.1 q.1) (fun _ _ => False) s
  rw [e, e', keyLt'_oneType]
  exact oneLt_str ⟨rfl, rfl⟩
theorem strs_sortable {a : Addr} {vs : List Value} {ns : List Str} (hI : StrsAre vs ns) (h2 : 2 ≤ vs.length) : SrtO.SortableO prog w A s a vs ltSv := by
  intro h' _
  refine ⟨oneType', fun Q E hq => ?_, str_cmp hI⟩
  match vs, hI, h2 with
  | v1 :: v2 :: rest, hI, _ =>
    rw [keyKind_strs hI]
    exact wpAny_pure hq
  | [], _, h => exact absurd h (by decide)
  | [v], _, h => exact absurd h (by simp)
end
theorem strs_perm {vs out : List Value} {ks : List Str} (hI : StrsAre vs ks) (h : out.Perm vs) : ∃ ys : List Str, StrsAre out ys ∧ ys.Perm ks := by
  have f : ∀ {us : List Value}, (∀ u ∈ us, ∃ x t, u = Value.str x t) → StrsAre us (us.map fun u => match u with | .str x _ => x | _ => Str.empty) := by
    intro us
    induction us with
    | nil => intro _; exact .nil
    | cons u us ih =>
      intro hu
      obtain ⟨x, t, rfl⟩ := hu u (List.mem_cons_self ..)
      exact .cons x t (ih fun v hv => hu v (List.mem_cons_of_mem _ hv))
  have g : ∀ {us : List Value} {xs : List Str}, StrsAre us xs → (us.map fun u => match u with | .str x _ => x | _ => Str.empty) = xs := by
    intro us xs r
    induction r with
    | nil => rfl
    | cons x t r ih => exact congrArg (x :: ·) ih
  refine ⟨_, f fun v hv => strs_memV hI v (h.mem_iff.mp hv), ?_⟩
  have := h.map (fun u : Value => match u with | .str x _ => x | _ => Str.empty)
  rw [g hI] at this
  exact this
/-- sorted(d, reverse=b) of a dict of texts: some row of its keys -/
def rSortDR : List V → List V → Hp → VK → Prop := fun xs zs H Q => ∃ (a : Addr) (kvs : List (Key × V)) (ks : List Str) (b : Bool), xs = [.ref a] ∧ zs = [.bl b] ∧ Rd H a (.dK kvs) ∧ kvs.map (·.1) = ks.map Sum.inr ∧ ks.length < 64 ∧
    ∀ (ys : List Str) (p : Addr), ys.Perm ks → H p = none → Q (.ref p) (upd H p (.lst (ys.map V.str)))
section
variable {X : Cx}
theorem call_SORTDR (hcalm : X.calm = true) : CallRK X (.builtin "sorted") [Str.ofString "reverse"] rSortDR := by
  intro pins s σ H xs zs us ws Q I r rz q
  obtain ⟨a, kvs, ks, b, ex, rfl, hd, hks, h64, q⟩ := q
  subst ex
  obtain ⟨u, eu, rx⟩ := vals1 r
  subst eu
  cases rx
  obtain ⟨w1, rfl, e1⟩ := vals1 rz
  obtain rfl : w1 = Value.bool b := e1
  obtain ⟨z, lo, vs, rel, dd⟩ := dk_rd I.hok hd
  obtain ⟨ep, hat⟩ := dd.dictAt
  have hkeys : vs.map (·.1) = ks.map Sum.inr := rel.keys.symm.trans hks
  have hl : vs.length = ks.length := by
    have e := congrArg List.length hkeys
    rw [List.length_map, List.length_map] at e
    exact e
  have h16 : vs.length ≤ sizeLine := by rw [hl, sizeLine_eq]; omega
  show wpAny _ _ (call (.builtin "sorted") [.ref a] [(Str.ofString "reverse", .bool b)]) _ _ _
  refine call_function_entry_kw kind_sorted plain_sorted entry_sorted (PyProof.Rows.args_sorted_rev _ _) ?_
  unfold Builtin.«sorted»
  refine wpAny_bind (m := checkCount "sorted" 1 1 _) (wpAny_pure ?_)
  refine wpAny_bind (PySem.W.kdu_collect (A := X.A.in1) (PySem.W.kdl_dict (knd := mixKind X.prog X.w) (kvs := vs) (ep := ep) lo) (I.ok.hd hcalm) hat h16 fun h' tk acc hk hacc => ?_)
  have hal : acc.toList.length = ks.length := by rw [Array.length_toList, hacc.1, hl]
  have hS : StrsAre acc.toList ks := strs_at hal fun j v e => by
    obtain ⟨k, x, e1, e2⟩ := hacc.2 j v (by rw [← Array.getElem?_toList]; exact e)
    have e3 : (vs.map (·.1))[j]? = some k := by rw [List.getElem?_map, e1]; all_goals rfl
    rw [hkeys, List.getElem?_map] at e3
    cases e4 : ks[j]? with
    | none => rw [e4] at e3; cases e3
    | some y =>
      rw [e4] at e3
      have e5 : Sum.inr y = k := Option.some.inj e3
      subst e5
      obtain ⟨t, ev⟩ := Value.isStrOf_shape (x := y) (v := v) e2
      exact ⟨y, t, rfl, ev⟩
  have I1 : Inv X pins σ H { s with heap := h', toks := tk } := I.kept hk
  refine wpAny_bind (wpAny_newList ?_ (by rw [hal, sizeLine_eq]; omega))
  have hoL : (h'.push (seqObj "list" acc.toList.toArray 0)).get? h'.objs.size = some (seqObj "list" acc.toList.toArray 0) := Heap.get?_push_size _ rfl
  show wpAny _ _ _ _ _ { s with heap := h'.push (seqObj "list" acc.toList.toArray 0), toks := tk }
  have hz : acc.toList.length ≤ sizeLine := by rw [hal, sizeLine_eq]; omega
  refine wpAny_bind (wpAny_holding (wpAny_call_entry_kw slot_list_sort ⟨_, hoL, rfl⟩ entry_list_sort ?_ (PyProof.Rows.args_list_sort_rev _ _)))
  refine SrtR.list_sort_ordR (s := { s with heap := h'.push (seqObj "list" acc.toList.toArray 0), toks := tk }) swo_str hoL hz (fun h2 => strs_sortable hS h2) fun out hs hb => ⟨_, rfl, ?_⟩
  have hp2 : (if b = true then out.toArray.reverse else out.toArray).toList.Perm acc.toList := by
    cases b with
    | true =>
      show (out.toArray.reverse).toList.Perm _
      rw [Array.toList_reverse]
      exact ((List.reverse_perm _).trans (show out.Perm acc.toList.reverse from hb.perm)).trans (List.reverse_perm _)
    | false => exact hb.perm
  obtain ⟨ys, g1, g2⟩ := strs_perm hS hp2
  obtain ⟨e', he'⟩ := PyProof.Rows.sortedHeap_at (vs := acc.toList) (out := (if b = true then out.toArray.reverse else out.toArray)) hoL
  have hlen : (ys.map V.str).length ≤ sizeLine := by
    rw [List.length_map, g2.length_eq]
    exact Nat.le_trans (Nat.le_of_lt h64) (by decide)
  refine wpAny_pure ⟨_, rfl, .ref h'.objs.size, upd H h'.objs.size (.lst (ys.map V.str)), I1.laid (t' := tk) (fun b u e => ?_) (Nat.le_refl _)
    (show ObjOk X.prog X.w _ _ _ (.lst (ys.map V.str)) from ⟨hlen, (if b = true then out.toArray.reverse else out.toArray).toList, e', vals_of_strs g1, by rw [Array.toArray_toList]; exact he'⟩), rfl, q ys _ g2 (I1.hok.fresh (Nat.le_refl _))⟩
  have hb : b < h'.objs.size := Heap.lt_size e
  rw [PyProof.Rows.sortedHeap_old (Nat.ne_of_lt hb) (by rw [size_push']; exact Nat.lt_succ_of_lt hb)]
  exact Heap.get?_push_of_some _ e
end
/-! #### readings -/
section
variable {K : PySem.W.Frag} {σ : L2.St} {H : Hp} {Q : VK} {td ty te : TE} {g : TG} {tt : TT} {ws : List Nat}
theorem x_din (h : ty σ H fun y H1 => td σ H1 fun x H2 => ∃ a o, x = .ref a ∧ DGet H2 a y o ∧ Q (.bl o.isSome) H2) : tDIn ty td σ H Q := h
theorem x_dnotin (h : ty σ H fun y H1 => td σ H1 fun x H2 => ∃ a o, x = .ref a ∧ DGet H2 a y o ∧ Q (.bl (!o.isSome)) H2) : tDNotIn ty td σ H Q := h
theorem x_lockE {t : TE} {d : Addr} {u : HO} (hd : H d = some u) (hm : Mut (some u)) (h : ∀ od, t σ (upd H d (.frz od u)) fun v H' => H' d = some (.frz od u) ∧ Q v (upd H' d u)) : tLockE t σ H Q := ⟨d, u, hd, hm, h⟩
theorem lcK_mk {i : Nat} {d : Addr} {o : Obj} {kvs : List (Key × V)} (hi : σ[i]? = some (some (.ref d))) (hk : H d = some (.frz o (.dK kvs))) (Pv : Addr → Nat → Hp → Prop) (h0 : ∀ D, H D = none → Pv D 0 (upd H D (.lst [])))
    (hl : ∀ D i H', H D = none → Pv D i H' → H' d = some (.frz o (.dK kvs)))
    (hs : ∀ D i k v H', H D = none → kvs[i]? = some (k, v) → Pv D i H' → g (kV k) (wipe σ ws) H' fun σ2 H2 => wipe σ2 ws = wipe σ ws ∧ tt σ2 H2 fun b H3 => if b = true then te σ2 H3 fun y H4 => ∃ acc, H4 D = some (.lst acc) ∧ acc.length < sizeLine ∧ Pv D (i + 1) (upd H4 D (.lst (acc ++ [y]))) else Pv D (i + 1) H3)
    (hd : ∀ D H', H D = none → Pv D kvs.length H' → Q (.ref D) H') : tLc (iKeys (tVar i)) g tt te ws σ H Q := by
  refine ⟨.ref d, hi, d, o, rfl, .inl ⟨kvs, hk, fun D hD => ⟨fun i m H' => m = kvs.length - i ∧ i ≤ kvs.length ∧ Pv D i H', ⟨kvs.length, by simp, Nat.zero_le _, h0 D hD⟩, ?_⟩⟩⟩
  rintro i m H' ⟨rfl, hi, p⟩
  have q := hl D i H' hD p
  by_cases hlt : i < kvs.length
  · refine .inr ⟨⟨q, hlt⟩, Pv D (i + 1), fun H2 p' => ⟨kvs.length - (i + 1), by omega, rfl, hlt, p'⟩, fun x H2 y => ?_⟩
    obtain ⟨rfl, k, v, e, rfl⟩ := y
    exact hs D i k v _ hD e p
  · have e : i = kvs.length := by omega
    subst e
    exact .inl ⟨⟨q, Nat.le_refl _⟩, hd D H' hD p⟩
/-- a dict comprehension over a tuple or a list -/
theorem dcT_mk {tk tv : TE} {a : Addr} {xs : List V} (hm : ∀ R : V → Hp → Prop, R (.ref a) H → td σ H R) (hx : SqT K H a xs) (Pv : Addr → Nat → Hp → Prop) (h0 : ∀ D, H D = none → Pv D 0 (upd H D (.dK [])))
    (hl : ∀ D i H', H D = none → Pv D i H' → SqT K H' a xs)
    (hs : ∀ D i x H', H D = none → xs[i]? = some x → Pv D i H' → g x (wipe σ ws) H' fun σ2 H2 => wipe σ2 ws = wipe σ ws ∧ tt σ2 H2 fun b H3 => if b = true then tk σ2 H3 fun y H4 => tv σ2 H4 fun z H5 => ∃ kvs k, y = kV k ∧ H5 D = some (.dK kvs) ∧ kvs.length < sizeLine ∧ Pv D (i + 1) (upd H5 D (.dK (putK kvs k z))) else Pv D (i + 1) H3)
    (hd : ∀ D H', H D = none → Pv D xs.length H' → Q (.ref D) H') : tDc (iTup K td) g tt tk tv ws σ H Q := by
  refine hm _ ⟨a, rfl, ⟨xs, hx⟩, fun D hD => ⟨fun i m H' => m = xs.length - i ∧ i ≤ xs.length ∧ Pv D i H', ⟨xs.length, by simp, Nat.zero_le _, h0 D hD⟩, ?_⟩⟩
  rintro i m H' ⟨rfl, hi, p⟩
  have q := hl D i H' hD p
  by_cases hlt : i < xs.length
  · refine .inr ⟨⟨xs, xs[i], q, by simp [hlt]⟩, Pv D (i + 1), fun H2 p' => ⟨xs.length - (i + 1), by omega, rfl, hlt, p'⟩, fun x H2 y => ?_⟩
    obtain ⟨e, y⟩ := y
    subst e
    exact hs D i x _ hD (y xs q) p
  · have e : i = xs.length := by omega
    subst e
    exact .inl ⟨⟨xs, q, Nat.le_refl _⟩, hd D H' hD p⟩
theorem le_ss {i j : Str} (h : Q (.bl (!decide (j.cps.toList < i.cps.toList))) H) : rLE (.str i) (.str j) H Q := .inr ⟨i, j, rfl, rfl, h⟩
theorem any_b {p : Addr} {bs : List Bool} (hs : SqL K H p (bs.map V.bl)) (h : Q (.bl (bs.any id)) H) : rAny K [.ref p] H Q := ⟨p, bs, rfl, hs, h⟩
end
/-! #### a walk over a dict's keys, under its lock -/
section
variable {σ : L2.St} {H : Hp} {n b k : L2.St → Hp → Prop} {rt : VK} {g : TG} {p : TS}
theorem forK_mk {i : Nat} {d : Addr} {kvs : List (Key × V)} (hi : σ[i]? = some (some (.ref d))) (hd : H d = some (.dK kvs)) (Pv : Obj → Nat → L2.St → Hp → Prop) (h0 : ∀ o, Pv o 0 σ (upd H d (.frz o (.dK kvs)))) (hl : ∀ o i σ H', Pv o i σ H' → H' d = some (.frz o (.dK kvs)))
    (hs : ∀ o i k' v σ H', kvs[i]? = some (k', v) → Pv o i σ H' → g (kV k') σ H' fun σ2 H2 => p ⟨Pv o (i + 1), fun x H' => H' d = some (.frz o (.dK kvs)) ∧ rt x (upd H' d (.dK kvs)), fun σ' H' => H' d = some (.frz o (.dK kvs)) ∧ n σ' (upd H' d (.dK kvs)), Pv o (i + 1)⟩ σ2 H2)
    (he : ∀ o σ H', Pv o kvs.length σ H' → n σ (upd H' d (.dK kvs))) : tLock (tFor (iKeys (tVar i)) g p) ⟨n, rt, b, k⟩ σ H := by
  refine ⟨d, .dK kvs, hd, True.intro, fun o => ?_⟩
  refine ⟨.ref d, hi, d, o, rfl, .inl ⟨kvs, upd_same, ?_⟩⟩
  refine ⟨fun i m σ' H' => m = kvs.length - i ∧ i ≤ kvs.length ∧ Pv o i σ' H', ⟨kvs.length, by simp, Nat.zero_le _, h0 o⟩, ?_⟩
  rintro i m σ' H' ⟨rfl, hi, pv⟩
  have q := hl o i σ' H' pv
  by_cases hlt : i < kvs.length
  · refine .inr ⟨⟨q, hlt⟩, Pv o (i + 1), fun σ2 H2 p' => ⟨kvs.length - (i + 1), by omega, rfl, hlt, p'⟩, fun x H2 y => ?_⟩
    obtain ⟨rfl, k', v, e, rfl⟩ := y
    exact hs o i k' v σ' _ e pv
  · have e : i = kvs.length := by omega
    subst e
    exact .inl ⟨⟨q, Nat.le_refl _⟩, q, he o σ' H' pv⟩
end
/-! #### a heap with some objects left aside -/
def ms (L : List Addr) (H : Hp) : Hp := fun x => if x ∈ L then none else H x
section
variable {K : PySem.W.Frag} {L : List Addr} {H H' : Hp}
theorem ms_le : Same (ms L H) H := fun x o h => by
  unfold ms at h
  by_cases e : x ∈ L
  · rw [if_pos e] at h; cases h
  · rwa [if_neg e] at h
theorem ms_at {x : Addr} {o : HO} (e : x ∉ L) (h : H x = some o) : ms L H x = some o := by
  unfold ms
  rw [if_neg e]
  exact h
theorem ms_out {x : Addr} {o : HO} (h : ms L H x = some o) : x ∉ L := fun e => by
  unfold ms at h
  rw [if_pos e] at h
  cases h
theorem ms_mono (h : ∀ x o, x ∉ L → H x = some o → H' x = some o) : Same (ms L H) (ms L H') := fun x o e => ms_at (ms_out e) (h x o (ms_out e) (ms_le _ _ e))
theorem ms_same (h : Same H H') : Same (ms L H) (ms L H') := ms_mono fun x o _ e => h x o e
theorem ms_new {p : Addr} {o : HO} (h : H p = none) : Same (ms L H) (ms L (upd H p o)) := ms_same (same_upd h)
theorem ms_upd {p : Addr} {o : HO} (h : p ∈ L) : Same (ms L H) (ms L (upd H p o)) := ms_mono fun x u hx e => by
  rw [upd_ne (fun z => hx (by rw [z]; exact h))]
  exact e
theorem ms_frm {s g : Addr} (hs : s ∈ L) (hg : g ∈ L) (h : Frm s g H H') : Same (ms L H) (ms L H') := ms_mono fun x o hx e => h x o (fun z => hx (z ▸ hs)) (fun z => hx (z ▸ hg)) e
/-- what is in the list is no tuple -/
def NoT : HO → Prop
  | .tup _ => False
  | .frz _ (.tup _) => False
  | _ => True
def NoL : HO → Prop
  | .lst _ => False
  | .frz _ (.lst _) => False
  | _ => True
theorem ms_sqt {a : Addr} {xs : List V} (hL : ∀ x ∈ L, ∀ o, H x = some o → NoT o) (h : SqT K H a xs) : SqT K (ms L H) a xs := by
  have off : ∀ o, H a = some o → ¬ NoT o → a ∉ L := fun o e z y => z (hL a y o e)
  rcases h with (h | ⟨o, h⟩) | h
  · exact .inl (.inl (ms_at (off _ h fun z => z) h))
  · exact .inl (.inr ⟨o, ms_at (off _ h fun z => z) h⟩)
  · exact .inr h
mutual
/-- data without lists and dicts -/
def tupD : PyData → Bool
  | .tuple ds => tupDs ds
  | .list _ => false
  | .dict _ => false
  | _ => true
def tupDs : List PyData → Bool
  | [] => true
  | d :: ds => tupD d && tupDs ds
end
mutual
theorem ms_dp (hL : ∀ x ∈ L, ∀ o, H x = some o → NoT o) : ∀ (d : PyData) (v : V), tupD d = true → Dp K H v d → Dp K (ms L H) v d
  | _, _, _, .non => .non
  | _, _, _, .bl b => .bl b
  | _, _, _, .int i => .int i
  | _, _, _, .str x => .str x
  | .list ds, _, z, .lst h a => by rw [tupD] at z; cases z
  | .tuple ds, _, z, .tup h a => .tup (ms_sqt hL h) (ms_dps hL ds _ (by rw [tupD] at z; exact z) a)
theorem ms_dps (hL : ∀ x ∈ L, ∀ o, H x = some o → NoT o) : ∀ (ds : List PyData) (vs : List V), tupDs ds = true → DpAll K H vs ds → DpAll K (ms L H) vs ds
  | _, _, _, .nil => .nil
  | d :: ds, v :: vs, z, .cons h t => by
    rw [tupDs, Bool.and_eq_true] at z
    exact .cons (ms_dp hL d v z.1 h) (ms_dps hL ds vs z.2 t)
end
theorem tupDs_of : ∀ {ds : List PyData}, (∀ d ∈ ds, tupD d = true) → tupDs ds = true
  | [], _ => by rw [tupDs]
  | d :: ds, h => by rw [tupDs, h d (List.mem_cons_self ..), tupDs_of fun e he => h e (List.mem_cons_of_mem _ he)]; rfl
/-- data that stands in a part of the heap stands in the whole -/
theorem ms_un {d : PyData} {v : V} (h : Dp K (ms L H) v d) : Dp K H v d := dp_mono ms_le _ _ h
end
end My

set_option Elab.async false
set_option linter.all false
set_option maxRecDepth 100000
set_option maxHeartbeats 4000000
namespace My
open PySem PySem.Spec PyProof.Rows L2
/-! ### the text -/
def topS (i : Nat) : Stmt := PySem.Challenge.pw_heldpasts_k65_names_that_hold.main.body.getD i (.Pass ⟨0, 0, 0, 0⟩)
abbrev s_is_text : Stmt := topS 4
theorem sc_is_text : FnScope ["value"] ["value"] (defScope s_is_text) := ⟨rfl, rfl, rfl, by decide +kernel, rfl, by decide +kernel, by decide +kernel⟩
-- is_text: 0 value
abbrev s_is_changes : Stmt := topS 6
theorem sc_is_changes : FnScope ["value", "change", "keys", "key", "_", "one", "other"] ["value"] (defScope s_is_changes) := ⟨rfl, rfl, rfl, by decide +kernel, rfl, by decide +kernel, by decide +kernel⟩
-- is_changes: 0 value, 1 change, 2 keys, 3 key, 4 _, 5 one, 6 other
abbrev s_is_change : Stmt := topS 7
theorem sc_is_change : FnScope ["value"] ["value"] (defScope s_is_change) := ⟨rfl, rfl, rfl, by decide +kernel, rfl, by decide +kernel, by decide +kernel⟩
-- is_change: 0 value
abbrev s_check_changes : Stmt := topS 9
theorem sc_check_changes : FnScope ["changes"] ["changes"] (defScope s_check_changes) := ⟨rfl, rfl, rfl, by decide +kernel, rfl, by decide +kernel, by decide +kernel⟩
-- check_changes: 0 changes
abbrev s_lies_in : Stmt := topS 11
theorem sc_lies_in : FnScope ["key", "low", "high"] ["key", "low", "high"] (defScope s_lies_in) := ⟨rfl, rfl, rfl, by decide +kernel, rfl, by decide +kernel, by decide +kernel⟩
-- lies_in: 0 key, 1 low, 2 high
abbrev s_held_names : Stmt := topS 13
theorem sc_held_names : FnScope ["holds", "changes", "keys", "key", "_", "name"] ["holds", "changes"] (defScope s_held_names) := ⟨rfl, rfl, rfl, by decide +kernel, rfl, by decide +kernel, by decide +kernel⟩
-- held_names: 0 holds*, 1 changes, 2 keys*, 3 key, 4 _, 5 name
abbrev s_has_any : Stmt := topS 14
theorem sc_has_any : FnScope ["hold", "keys", "own", "key", "_"] ["hold", "keys"] (defScope s_has_any) := ⟨rfl, rfl, rfl, by decide +kernel, rfl, by decide +kernel, by decide +kernel⟩
-- has_any: 0 hold*, 1 keys, 2 own*, 3 key, 4 _
abbrev s_lies_in_any : Stmt := topS 15
theorem sc_lies_in_any : FnScope ["key", "stretches", "low", "high"] ["key", "stretches"] (defScope s_lies_in_any) := ⟨rfl, rfl, rfl, by decide +kernel, rfl, by decide +kernel, by decide +kernel⟩
-- lies_in_any: 0 key*, 1 stretches, 2 low, 3 high
abbrev s_changing_names : Stmt := topS 16
theorem sc_changing_names : FnScope ["holds", "guards", "name", "key", "_"] ["holds", "guards"] (defScope s_changing_names) := ⟨rfl, rfl, rfl, by decide +kernel, rfl, by decide +kernel, by decide +kernel⟩
-- changing_names: 0 holds*, 1 guards*, 2 name, 3 key, 4 _
abbrev s__law_well : Stmt := topS 18
theorem sc__law_well : FnScope ["_law_cell", "_law_number"] ["_law_cell"] (defScope s__law_well) := ⟨rfl, rfl, rfl, by decide +kernel, rfl, by decide +kernel, by decide +kernel⟩
-- _law_well: 0 _law_cell, 1 _law_number
abbrev s__law_draw : Stmt := topS 19
theorem sc__law_draw : FnScope ["_law_well_here", "_law_many", "_law_full"] ["_law_well_here", "_law_many"] (defScope s__law_draw) := ⟨rfl, rfl, rfl, by decide +kernel, rfl, by decide +kernel, by decide +kernel⟩
-- _law_draw: 0 _law_well_here, 1 _law_many, 2 _law_full
abbrev s__law_same : Stmt := topS 20
theorem sc__law_same : FnScope ["_law_found", "_law_due", "_law_k"] ["_law_found", "_law_due"] (defScope s__law_same) := ⟨rfl, rfl, rfl, by decide +kernel, rfl, by decide +kernel, by decide +kernel⟩
-- _law_same: 0 _law_found*, 1 _law_due*, 2 _law_k
abbrev s__law_key : Stmt := topS 21
theorem sc__law_key : FnScope ["_law_well_here"] ["_law_well_here"] (defScope s__law_key) := ⟨rfl, rfl, rfl, by decide +kernel, rfl, by decide +kernel, by decide +kernel⟩
-- _law_key: 0 _law_well_here
abbrev s__law_changes : Stmt := topS 22
theorem sc__law_changes : FnScope ["_law_well_here", "_law_least", "_law_most", "_law_found", "_law_k", "_law_key_here"] ["_law_well_here", "_law_least", "_law_most"] (defScope s__law_changes) := ⟨rfl, rfl, rfl, by decide +kernel, rfl, by decide +kernel, by decide +kernel⟩
-- _law_changes: 0 _law_well_here, 1 _law_least, 2 _law_most, 3 _law_found*, 4 _law_k, 5 _law_key_here
abbrev s__law_guards : Stmt := topS 23
theorem sc__law_guards : FnScope ["_law_well_here", "_law_most", "_law_some", "_law_k", "_law_low", "_law_high"] ["_law_well_here", "_law_most"] (defScope s__law_guards) := ⟨rfl, rfl, rfl, by decide +kernel, rfl, by decide +kernel, by decide +kernel⟩
-- _law_guards: 0 _law_well_here, 1 _law_most, 2 _law_some, 3 _law_k, 4 _law_low, 5 _law_high
abbrev s__law_lies : Stmt := topS 24
theorem sc__law_lies : FnScope ["_law_key_here", "_law_guards_here", "_law_low", "_law_high"] ["_law_key_here", "_law_guards_here"] (defScope s__law_lies) := ⟨rfl, rfl, rfl, by decide +kernel, rfl, by decide +kernel, by decide +kernel⟩
-- _law_lies: 0 _law_key_here, 1 _law_guards_here, 2 _law_low, 3 _law_high
abbrev s__law_is_refused : Stmt := topS 25
theorem sc__law_is_refused : FnScope ["_law_holds", "_law_changes_here"] ["_law_holds", "_law_changes_here"] (defScope s__law_is_refused) := ⟨rfl, rfl, rfl, by decide +kernel, rfl, by decide +kernel, by decide +kernel⟩
-- _law_is_refused: 0 _law_holds, 1 _law_changes_here
abbrev s_law : Stmt := topS 26
theorem sc_law : FnScope ["_law_script", "_law_cell", "_law_well_here", "_law_holds", "_law_k", "_law_keys", "_law_name", "_law_passed", "_law_bad", "_law_changes_here", "_law_guards_here", "_law_held", "_law_changing", "_law_own", "_law_key_here", "_law_value"] ["_law_script"] (defScope s_law) := ⟨rfl, rfl, rfl, by decide +kernel, rfl, by decide +kernel, by decide +kernel⟩
-- law: 0 _law_script, 1 _law_cell, 2 _law_well_here, 3 _law_holds*, 4 _law_k, 5 _law_keys, 6 _law_name*, 7 _law_passed*, 8 _law_bad, 9 _law_changes_here, 10 _law_guards_here*, 11 _law_held, 12 _law_changing, 13 _law_own*, 14 _law_key_here, 15 _law_value
/-! ### the facts -/
def g_kb_held_names_0 : List Value → List Value → List Value
  | [], [y0, y1] => [y1, y0]
  | _, _ => []
def gV_kb_held_names_0 : List V → List V → List V
  | [], [y0, y1] => [y1, y0]
  | _, _ => []
def g_kb_changing_names_0 : List Value → List Value → List Value
  | [], [y0, y1] => [y1, y0]
  | _, _ => []
def gV_kb_changing_names_0 : List V → List V → List V
  | [], [y0, y1] => [y1, y0]
  | _, _ => []
structure Fx (K : PySem.W.Frag) (mg : Str → Option Value) where
  a_is_text : Addr
  fd_is_text : FuncData
  F_is_text : Fun K "is_text" "is_text" s_is_text a_is_text fd_is_text
  g_is_text : mg "is_text" = some (.ref a_is_text)
  b_is_text : Binds K fd_is_text ["value"] []
  a_is_changes : Addr
  fd_is_changes : FuncData
  F_is_changes : Fun K "is_changes" "is_changes" s_is_changes a_is_changes fd_is_changes
  g_is_changes : mg "is_changes" = some (.ref a_is_changes)
  b_is_changes : Binds K fd_is_changes ["value"] []
  a_is_change : Addr
  fd_is_change : FuncData
  F_is_change : Fun K "is_change" "is_change" s_is_change a_is_change fd_is_change
  g_is_change : mg "is_change" = some (.ref a_is_change)
  b_is_change : Binds K fd_is_change ["value"] []
  a_check_changes : Addr
  fd_check_changes : FuncData
  F_check_changes : Fun K "check_changes" "check_changes" s_check_changes a_check_changes fd_check_changes
  g_check_changes : mg "check_changes" = some (.ref a_check_changes)
  b_check_changes : Binds K fd_check_changes ["changes"] []
  a_lies_in : Addr
  fd_lies_in : FuncData
  F_lies_in : Fun K "lies_in" "lies_in" s_lies_in a_lies_in fd_lies_in
  g_lies_in : mg "lies_in" = some (.ref a_lies_in)
  b_lies_in : Binds K fd_lies_in ["key", "low", "high"] []
  a_held_names : Addr
  fd_held_names : FuncData
  F_held_names : Fun K "held_names" "held_names" s_held_names a_held_names fd_held_names
  g_held_names : mg "held_names" = some (.ref a_held_names)
  b_held_names : Binds K fd_held_names ["holds", "changes"] []
  a_has_any : Addr
  fd_has_any : FuncData
  F_has_any : Fun K "has_any" "has_any" s_has_any a_has_any fd_has_any
  g_has_any : mg "has_any" = some (.ref a_has_any)
  b_has_any : Binds K fd_has_any ["hold", "keys"] []
  a_lies_in_any : Addr
  fd_lies_in_any : FuncData
  F_lies_in_any : Fun K "lies_in_any" "lies_in_any" s_lies_in_any a_lies_in_any fd_lies_in_any
  g_lies_in_any : mg "lies_in_any" = some (.ref a_lies_in_any)
  b_lies_in_any : Binds K fd_lies_in_any ["key", "stretches"] []
  a_changing_names : Addr
  fd_changing_names : FuncData
  F_changing_names : Fun K "changing_names" "changing_names" s_changing_names a_changing_names fd_changing_names
  g_changing_names : mg "changing_names" = some (.ref a_changing_names)
  b_changing_names : Binds K fd_changing_names ["holds", "guards"] []
  a__law_well : Addr
  fd__law_well : FuncData
  F__law_well : Fun K "_law_well" "_law_well" s__law_well a__law_well fd__law_well
  g__law_well : mg "_law_well" = some (.ref a__law_well)
  b__law_well : Binds K fd__law_well ["_law_cell"] []
  a__law_draw : Addr
  fd__law_draw : FuncData
  F__law_draw : Fun K "_law_draw" "_law_draw" s__law_draw a__law_draw fd__law_draw
  g__law_draw : mg "_law_draw" = some (.ref a__law_draw)
  b__law_draw : Binds K fd__law_draw ["_law_well_here", "_law_many"] []
  a__law_same : Addr
  fd__law_same : FuncData
  F__law_same : Fun K "_law_same" "_law_same" s__law_same a__law_same fd__law_same
  g__law_same : mg "_law_same" = some (.ref a__law_same)
  b__law_same : Binds K fd__law_same ["_law_found", "_law_due"] []
  a__law_key : Addr
  fd__law_key : FuncData
  F__law_key : Fun K "_law_key" "_law_key" s__law_key a__law_key fd__law_key
  g__law_key : mg "_law_key" = some (.ref a__law_key)
  b__law_key : Binds K fd__law_key ["_law_well_here"] []
  a__law_changes : Addr
  fd__law_changes : FuncData
  F__law_changes : Fun K "_law_changes" "_law_changes" s__law_changes a__law_changes fd__law_changes
  g__law_changes : mg "_law_changes" = some (.ref a__law_changes)
  b__law_changes : Binds K fd__law_changes ["_law_well_here", "_law_least", "_law_most"] []
  a__law_guards : Addr
  fd__law_guards : FuncData
  F__law_guards : Fun K "_law_guards" "_law_guards" s__law_guards a__law_guards fd__law_guards
  g__law_guards : mg "_law_guards" = some (.ref a__law_guards)
  b__law_guards : Binds K fd__law_guards ["_law_well_here", "_law_most"] []
  a__law_lies : Addr
  fd__law_lies : FuncData
  F__law_lies : Fun K "_law_lies" "_law_lies" s__law_lies a__law_lies fd__law_lies
  g__law_lies : mg "_law_lies" = some (.ref a__law_lies)
  b__law_lies : Binds K fd__law_lies ["_law_key_here", "_law_guards_here"] []
  a__law_is_refused : Addr
  fd__law_is_refused : FuncData
  F__law_is_refused : Fun K "_law_is_refused" "_law_is_refused" s__law_is_refused a__law_is_refused fd__law_is_refused
  g__law_is_refused : mg "_law_is_refused" = some (.ref a__law_is_refused)
  b__law_is_refused : Binds K fd__law_is_refused ["_law_holds", "_law_changes_here"] []
  a_law : Addr
  fd_law : FuncData
  F_law : Fun K "law" "law" s_law a_law fd_law
  g_law : mg "law" = some (.ref a_law)
  b_law : Binds K fd_law ["_law_script"] []
  kb_held_names_0 : KBinds K fd_held_names ["holds", "changes"] ["changes", "holds"] g_kb_held_names_0 gV_kb_held_names_0
  kb_changing_names_0 : KBinds K fd_changing_names ["holds", "guards"] ["guards", "holds"] g_kb_changing_names_0 gV_kb_changing_names_0
  x_InvalidChanges : Addr
  q_InvalidChanges : mg "InvalidChanges" = some (.ref x_InvalidChanges)
  e_InvalidChanges : PySem.W.excIn K x_InvalidChanges [.type "ValueError", .type "Exception", .type "BaseException", .type "object"] "ValueError.__new__" = true
  k_InvalidChanges : PySem.W.keepIn K (.ref x_InvalidChanges) = true
  s_InvalidChanges : PySem.W.subIn K (.ref x_InvalidChanges) (.type "BaseException") = some true
  t_InvalidChanges : PySem.W.typeIn K (.ref x_InvalidChanges) = some (.type "type")
  m_InvalidChanges_InvalidChanges : PySem.W.exmOne K (.ref x_InvalidChanges) (.ref x_InvalidChanges) = some true
  m_abs : mg "abs" = none
  m_all : mg "all" = none
  m_any : mg "any" = none
  m_int : mg "int" = none
  m_isinstance : mg "isinstance" = none
  m_len : mg "len" = none
  m_list : mg "list" = none
  m_max : mg "max" = none
  m_range : mg "range" = none
  m_sorted : mg "sorted" = none
  m_str : mg "str" = none
  m_tuple : mg "tuple" = none
  m_type : mg "type" = none
  m_zip : mg "zip" = none

/-! ### the bodies -/
section
variable {P : Program} {w : World} {K : PySem.W.Frag} {mg : Str → Option Value} {base : Heap}
def t_is_text (K : PySem.W.Frag)  : TS :=
    (tRet (tAndV (tOp (rIS K) (tCB (rTyp K) (tCons (tVar 0) tNil)) (tC (.ty "str"))) (tAndV (tBM0 K "str" rM_isascii (tVar 0)) (tBM0 K "str" rM_isprintable (tVar 0)))))
theorem b_is_text (Y : Fx K mg)   {f : Addr} {cdv : Value} {A : Around} {outer : List Env} {s : Shared} {H : Hp} {E : XK} (hr : Room 0 (A.deeper (envOfC "is_text" (defScope s_is_text) s.heap.objs.size f cdv))) :
    PSs (cxOf CX0 P w K mg base ["value"] "is_text" (defScope s_is_text) f cdv A outer s H E).nox (defBody s_is_text) (t_is_text K ) :=
    (pss_one (ps_ret (pe_and (pe_cmpR op_IS (pe_callTy call_type1 (by rfl) Y.m_type (by decide +kernel) (pa_cons (pv 0) pa_nil)) (pe_bltn (v := .ty "str") (by rfl) Y.m_str (by decide +kernel) rfl) (nomark _)) (pe_and (pe_bm0 PySem.F.plainAttrs_str PySem.F.slot_str_isascii PySem.F.type_str_isascii mt_isascii (pv 0)) (pe_one (pe_bm0 PySem.F.plainAttrs_str PySem.F.slot_str_isprintable PySem.F.type_str_isprintable mt_isprintable (pv 0)))))))
def t_is_changes (K : PySem.W.Frag) (sp_is_change : PySem.W.Frag → Sp) : TS :=
    (tSeq (tIfS (tOr (tTest (tOp (rISN K) (tCB (rTyp K) (tCons (tVar 0) tNil)) (tC (.ty "tuple")))) (tNot (tTru1 K (tCB (rAll K) (tCons (tLc (iTup K (tVar 0)) (gName 1) tYes (tCall (sp_is_change K) [] E0 (tCons (tVar 1) tNil)) [1]) tNil))))) (tRet (tC (.bl false))) tNext)
    (tSeq (tAsg (tLc (iTup K (tVar 0)) (gTup K 2 (gCons (gName 3) (gCons (gName 4) gNil))) tYes (tVar 3) [3, 4]) (gName 2))
    (tRet (tCB (rAll K) (tCons (tLc (iZip K (tCons (tVar 2) (tCons (tSl (rSL K) (tVar 2) (tPart (tC (.int 1))) tNoPart) tNil))) (gTup K 2 (gCons (gName 5) (gCons (gName 6) gNil))) tYes (tOp rLT (tVar 5) (tVar 6)) [5, 6]) tNil)))))
theorem b_is_changes (Y : Fx K mg) {sp_is_change : PySem.W.Frag → Sp} (G_is_change : FnOk P w K mg base CX0 2 Y.a_is_change Y.fd_is_change ["value"] (sp_is_change K)) {f : Addr} {cdv : Value} {A : Around} {outer : List Env} {s : Shared} {H : Hp} {E : XK} (hr : Room 2 (A.deeper (envOfC "is_changes" (defScope s_is_changes) s.heap.objs.size f cdv))) :
    PSs (cxOf CX0 P w K mg base ["value", "change", "keys", "key", "_", "one", "other"] "is_changes" (defScope s_is_changes) f cdv A outer s H E).nox (defBody s_is_changes) (t_is_changes K sp_is_change) :=
    (pss_cons (ps_if (PW.pt (pw_or (pt_cmpR op_ISN (pe_callTy call_type1 (by rfl) Y.m_type (by decide +kernel) (pa_cons (pv 0) pa_nil)) (pe_bltn (v := .ty "tuple") (by rfl) Y.m_tuple (by decide +kernel) rfl) (nomark _)) (pw_or1 (pt_not (pt_tru (pe_callB (cr_all rfl) (by rfl) Y.m_all (by decide +kernel) (pa_cons (pe_lc (own := [("change", 1)]) (by rfl) sc_is_changes.nd (pi_tup (pv 0)) (blkOk_by (own := [("change", 1)]) (N := ["value", "change", "keys", "key", "_", "one", "other"]) (sc := defScope s_is_changes) (by decide +kernel)) (fun _ _ _ _ _ => (pg_name (i := 1) sc_is_changes.nd rfl (Or.inl rfl))) (fun _ _ _ _ _ => pts_nil) (fun _ _ _ _ _ => (pe_call G_is_change (hr.mono (by decide)) (by rfl) Y.g_is_change Y.F_is_change.kp Y.b_is_change .nil pass0 (pa_cons (pv 1) pa_nil)))) pa_nil)) (by intro _; rfl)))))) (pss_one (ps_ret pe_bl)) pss_nil)
    (pss_cons (ps_setLc (i := 2) (own := [("key", 3), ("_", 4)]) (by rfl) sc_is_changes.nd rfl rfl (sw_true rfl rfl rfl (by decide +kernel)) (pi_tup (pv 0)) (blkOk_by (own := [("key", 3), ("_", 4)]) (N := ["value", "change", "keys", "key", "_", "one", "other"]) (sc := defScope s_is_changes) (by decide +kernel)) (fun _ _ _ _ _ => (pg_tup rfl (pgs_cons (pg_name (i := 3) sc_is_changes.nd rfl (Or.inl rfl)) (pgs_cons (pg_name (i := 4) sc_is_changes.nd rfl (Or.inl rfl)) pgs_nil)))) (fun _ _ _ _ _ => pts_nil) (fun _ _ _ _ _ => (pv 3)))
    (pss_one (ps_ret (pe_callB (cr_all rfl) (by rfl) Y.m_all (by decide +kernel) (pa_cons (pe_lc (own := [("one", 5), ("other", 6)]) (by rfl) sc_is_changes.nd (pi_zip (by rfl) Y.m_zip (pa_cons (pv 2) (pa_cons (pe_slice sl_SEQ (pv 2) (po_some pe_int) po_none) pa_nil))) (blkOk_by (own := [("one", 5), ("other", 6)]) (N := ["value", "change", "keys", "key", "_", "one", "other"]) (sc := defScope s_is_changes) (by decide +kernel)) (fun _ _ _ _ _ => (pg_tup rfl (pgs_cons (pg_name (i := 5) sc_is_changes.nd rfl (Or.inl rfl)) (pgs_cons (pg_name (i := 6) sc_is_changes.nd rfl (Or.inl rfl)) pgs_nil)))) (fun _ _ _ _ _ => pts_nil) (fun _ _ _ _ _ => (pe_cmpR op_LT (pv 5) (pv 6) (nomark _)))) pa_nil))))))
def t_is_change (K : PySem.W.Frag) (sp_is_text : PySem.W.Frag → Sp) : TS :=
    (tSeq (tIfS (tOr (tTest (tOp (rISN K) (tCB (rTyp K) (tCons (tVar 0) tNil)) (tC (.ty "tuple")))) (tTest (tOp (rNE K) (tCB (rLEN K) (tCons (tVar 0) tNil)) (tC (.int 2))))) (tRet (tC (.bl false))) tNext)
    (tRet (tAndV (tCall (sp_is_text K) [] E0 (tCons (tOp (rIX K) (tVar 0) (tC (.int 0))) tNil)) (tOrV (tOp (rIS K) (tOp (rIX K) (tVar 0) (tC (.int 1))) (tC .non)) (tCall (sp_is_text K) [] E0 (tCons (tOp (rIX K) (tVar 0) (tC (.int 1))) tNil))))))
theorem b_is_change (Y : Fx K mg) {sp_is_text : PySem.W.Frag → Sp} (G_is_text : FnOk P w K mg base CX0 1 Y.a_is_text Y.fd_is_text ["value"] (sp_is_text K)) {f : Addr} {cdv : Value} {A : Around} {outer : List Env} {s : Shared} {H : Hp} {E : XK} (hr : Room 1 (A.deeper (envOfC "is_change" (defScope s_is_change) s.heap.objs.size f cdv))) :
    PSs (cxOf CX0 P w K mg base ["value"] "is_change" (defScope s_is_change) f cdv A outer s H E).nox (defBody s_is_change) (t_is_change K sp_is_text) :=
    (pss_cons (ps_if (PW.pt (pw_or (pt_cmpR op_ISN (pe_callTy call_type1 (by rfl) Y.m_type (by decide +kernel) (pa_cons (pv 0) pa_nil)) (pe_bltn (v := .ty "tuple") (by rfl) Y.m_tuple (by decide +kernel) rfl) (nomark _)) (pw_or1 (pt_cmpR (op_NE (hu_64 hr)) (pe_callB call_LEN (by rfl) Y.m_len (by decide +kernel) (pa_cons (pv 0) pa_nil)) pe_int (nomark _))))) (pss_one (ps_ret pe_bl)) pss_nil)
    (pss_one (ps_ret (pe_and (pe_call G_is_text (hr.mono (by decide)) (by rfl) Y.g_is_text Y.F_is_text.kp Y.b_is_text .nil pass0 (pa_cons (pe_ix ix_SEQ (pv 0) pe_int (fun _ _ => rfl)) pa_nil)) (pe_one (pe_or (pe_cmpR op_IS (pe_ix ix_SEQ (pv 0) pe_int (fun _ _ => rfl)) pe_non (nomark _)) (pe_one (pe_call G_is_text (hr.mono (by decide)) (by rfl) Y.g_is_text Y.F_is_text.kp Y.b_is_text .nil pass0 (pa_cons (pe_ix ix_SEQ (pv 0) pe_int (fun _ _ => rfl)) pa_nil)))))))))
def t_check_changes (K : PySem.W.Frag) {mg : Str → Option Value} (Y : Fx K mg) (E : XK) (sp_is_changes : PySem.W.Frag → Sp) : TS :=
    (tIfS (tNot (tTru1 K (tCall (sp_is_changes K) [] E0 (tCons (tVar 0) tNil)))) (tRaise (.ref Y.x_InvalidChanges) E) tNext)
theorem b_check_changes (Y : Fx K mg) {sp_is_changes : PySem.W.Frag → Sp} (G_is_changes : FnOk P w K mg base CX0 3 Y.a_is_changes Y.fd_is_changes ["value"] (sp_is_changes K)) {f : Addr} {cdv : Value} {A : Around} {outer : List Env} {s : Shared} {H : Hp} {E : XK} (hr : Room 3 (A.deeper (envOfC "check_changes" (defScope s_check_changes) s.heap.objs.size f cdv))) :
    PSs (cxOf (L2.CX P w) P w K mg base ["changes"] "check_changes" (defScope s_check_changes) f cdv A outer s H E) (defBody s_check_changes) (t_check_changes K Y E sp_is_changes) :=
    (pss_one (ps_if (pt_not (pt_tru (pe_call G_is_changes (hr.mono (by decide)) (by rfl) Y.g_is_changes Y.F_is_changes.kp Y.b_is_changes .nil pass0 (pa_cons (pv 0) pa_nil)) (by intro _; rfl))) (pss_one (ps_raiseE rfl (takes_of rfl rfl rfl rfl) PySem.F.excBase_ValueError Y.e_InvalidChanges Y.q_InvalidChanges Y.k_InvalidChanges (raises_own Y.s_InvalidChanges Y.t_InvalidChanges) (by rfl))) pss_nil))
def t_lies_in (K : PySem.W.Frag)  : TS :=
    (tRet (tAndV (tOrV (tOp (rIS K) (tVar 1) (tC .non)) (tOp rLE (tVar 1) (tVar 0))) (tOrV (tOp (rIS K) (tVar 2) (tC .non)) (tOp rLT (tVar 0) (tVar 2)))))
theorem b_lies_in (Y : Fx K mg)   {f : Addr} {cdv : Value} {A : Around} {outer : List Env} {s : Shared} {H : Hp} {E : XK} (hr : Room 0 (A.deeper (envOfC "lies_in" (defScope s_lies_in) s.heap.objs.size f cdv))) :
    PSs (cxOf CX0 P w K mg base ["key", "low", "high"] "lies_in" (defScope s_lies_in) f cdv A outer s H E).nox (defBody s_lies_in) (t_lies_in K ) :=
    (pss_one (ps_ret (pe_and (pe_or (pe_cmpR op_IS (pv 1) pe_non (nomark _)) (pe_one (pe_cmpR op_LE (pv 1) (pv 0) (nomark _)))) (pe_one (pe_or (pe_cmpR op_IS (pv 2) pe_non (nomark _)) (pe_one (pe_cmpR op_LT (pv 0) (pv 2) (nomark _))))))))
def t_held_names (K : PySem.W.Frag) (E : XK) (sp_check_changes : PySem.W.Frag → Sp) (sp_has_any : PySem.W.Frag → Sp) : TS :=
    (tSeq (tDrop (tCall (sp_check_changes K) [] E (tCons (tVar 1) tNil)))
    (tSeq (tAsg (tLc (iTup K (tVar 1)) (gTup K 2 (gCons (gName 3) (gCons (gName 4) gNil))) tYes (tVar 3) [3, 4]) (gName 2))
    (tRet (tCB (rTUPLE K) (tCons (tCB (rSortedS K) (tCons (tLockE (tLc (iKeys (tVar 0)) (gName 5) (tTru1 K (tCall (sp_has_any K) [] E0 (tCons (tDGet (tVar 0) (tVar 5)) (tCons (tVar 2) tNil)))) (tVar 5) [5])) tNil)) tNil)))))
theorem b_held_names (Y : Fx K mg) {sp_check_changes : PySem.W.Frag → Sp} {sp_has_any : PySem.W.Frag → Sp} (G_check_changes : FnOk P w K mg base (L2.CX P w) 4 Y.a_check_changes Y.fd_check_changes ["changes"] (sp_check_changes K)) (G_has_any : FnOk P w K mg base CX0 3 Y.a_has_any Y.fd_has_any ["hold", "keys"] (sp_has_any K)) {f : Addr} {cdv : Value} {A : Around} {outer : List Env} {s : Shared} {H : Hp} {E : XK} (hr : Room 4 (A.deeper (envOfC "held_names" (defScope s_held_names) s.heap.objs.size f cdv))) :
    PSs (cxOf (L2.CX P w) P w K mg base ["holds", "changes", "keys", "key", "_", "name"] "held_names" (defScope s_held_names) f cdv A outer s H E) (defBody s_held_names) (t_held_names K E sp_check_changes sp_has_any) :=
    (pss_cons (ps_expr (pe_call G_check_changes (hr.mono (by decide)) (by rfl) Y.g_check_changes Y.F_check_changes.kp Y.b_check_changes .nil (passT (takes_of rfl rfl rfl rfl)) (pa_cons (pv 1) pa_nil)))
    (pss_cons (ps_set (i := 2) sc_held_names.nd rfl (Or.inr rfl) (pe_lc (own := [("key", 3), ("_", 4)]) (by rfl) sc_held_names.nd (pi_tup (pv 1)) (blkOk_by (own := [("key", 3), ("_", 4)]) (N := ["holds", "changes", "keys", "key", "_", "name"]) (sc := defScope s_held_names) (by decide +kernel)) (fun _ _ _ _ _ => (pg_tup rfl (pgs_cons (pg_name (i := 3) sc_held_names.nd rfl (Or.inl rfl)) (pgs_cons (pg_name (i := 4) sc_held_names.nd rfl (Or.inl rfl)) pgs_nil)))) (fun _ _ _ _ _ => pts_nil) (fun _ _ _ _ _ => (pv 3))))
    (pss_one (ps_ret (pe_callTy call_TUPLE (by rfl) Y.m_tuple (by decide +kernel) (pa_cons (pe_callB cr_sortedS (by rfl) Y.m_sorted (by decide +kernel) (pa_cons (pe_lock (pe_lc (own := [("name", 5)]) (by rfl) sc_held_names.nd (pi_keys (pv 0)) (blkOk_by (own := [("name", 5)]) (N := ["holds", "changes", "keys", "key", "_", "name"]) (sc := defScope s_held_names) (by decide +kernel)) (fun _ _ _ _ _ => (pg_name (i := 5) sc_held_names.nd rfl (Or.inl rfl))) (fun _ _ _ _ _ => (pts_one (pt_tru (pe_call G_has_any (hr.mono (by decide)) (by rfl) Y.g_has_any Y.F_has_any.kp Y.b_has_any .nil pass0 (pa_cons (pe_dget (hu_of hr) (pv 0) (pv 5) (fun _ _ => rfl)) (pa_cons (pv 2) pa_nil))) (by intro _; rfl)))) (fun _ _ _ _ _ => (pv 5)))) pa_nil)) pa_nil))))))
def t_has_any (K : PySem.W.Frag) (sp_lies_in_any : PySem.W.Frag → Sp) : TS :=
    (tSeq (tAsg (tDc (iTup K (tOp (rIX K) (tVar 0) (tC (.int 0)))) (gTup K 2 (gCons (gName 3) (gCons (gName 4) gNil))) tYes (tVar 3) (tC (.bl true)) [3, 4]) (gName 2))
    (tRet (tCB (rAny K) (tCons (tLc (iList K (tVar 1)) (gName 3) tYes (tOrV (tDIn (tVar 3) (tVar 2)) (tCall (sp_lies_in_any K) [] E0 (tCons (tVar 3) (tCons (tOp (rIX K) (tVar 0) (tC (.int 1))) tNil)))) [3]) tNil))))
theorem b_has_any (Y : Fx K mg) {sp_lies_in_any : PySem.W.Frag → Sp} (G_lies_in_any : FnOk P w K mg base CX0 2 Y.a_lies_in_any Y.fd_lies_in_any ["key", "stretches"] (sp_lies_in_any K)) {f : Addr} {cdv : Value} {A : Around} {outer : List Env} {s : Shared} {H : Hp} {E : XK} (hr : Room 2 (A.deeper (envOfC "has_any" (defScope s_has_any) s.heap.objs.size f cdv))) :
    PSs (cxOf CX0 P w K mg base ["hold", "keys", "own", "key", "_"] "has_any" (defScope s_has_any) f cdv A outer s H E).nox (defBody s_has_any) (t_has_any K sp_lies_in_any) :=
    (pss_cons (ps_set (i := 2) sc_has_any.nd rfl (Or.inr rfl) (pe_dc (own := [("key", 3), ("_", 4)]) (by rfl) sc_has_any.nd (pi_tup (pe_ix ix_SEQ (pv 0) pe_int (fun _ _ => rfl))) (blkOk_by (own := [("key", 3), ("_", 4)]) (N := ["hold", "keys", "own", "key", "_"]) (sc := defScope s_has_any) (by decide +kernel)) (fun _ _ _ _ _ => (pg_tup rfl (pgs_cons (pg_name (i := 3) sc_has_any.nd rfl (Or.inl rfl)) (pgs_cons (pg_name (i := 4) sc_has_any.nd rfl (Or.inl rfl)) pgs_nil)))) (fun _ _ _ _ _ => pts_nil) (fun _ _ _ _ _ => (pv 3)) (fun _ _ _ _ _ => pe_bl)))
    (pss_one (ps_ret (pe_callB (cr_any rfl) (by rfl) Y.m_any (by decide +kernel) (pa_cons (pe_lc (own := [("key", 3)]) (by rfl) sc_has_any.nd (pi_list (pv 1)) (blkOk_by (own := [("key", 3)]) (N := ["hold", "keys", "own", "key", "_"]) (sc := defScope s_has_any) (by decide +kernel)) (fun _ _ _ _ _ => (pg_name (i := 3) sc_has_any.nd rfl (Or.inl rfl))) (fun _ _ _ _ _ => pts_nil) (fun _ _ _ _ _ => (pe_or (pe_cmp (pc_din (hu_of hr) (pv 3) (pv 2)) (by with_unfolding_all rfl)) (pe_one (pe_call G_lies_in_any (hr.mono (by decide)) (by rfl) Y.g_lies_in_any Y.F_lies_in_any.kp Y.b_lies_in_any .nil pass0 (pa_cons (pv 3) (pa_cons (pe_ix ix_SEQ (pv 0) pe_int (fun _ _ => rfl)) pa_nil))))))) pa_nil)))))
def t_lies_in_any (K : PySem.W.Frag) (sp_lies_in : PySem.W.Frag → Sp) : TS :=
    (tRet (tCB (rAny K) (tCons (tLc (iTup K (tVar 1)) (gTup K 2 (gCons (gName 2) (gCons (gName 3) gNil))) tYes (tCall (sp_lies_in K) [] E0 (tCons (tVar 0) (tCons (tVar 2) (tCons (tVar 3) tNil)))) [2, 3]) tNil)))
theorem b_lies_in_any (Y : Fx K mg) {sp_lies_in : PySem.W.Frag → Sp} (G_lies_in : FnOk P w K mg base CX0 1 Y.a_lies_in Y.fd_lies_in ["key", "low", "high"] (sp_lies_in K)) {f : Addr} {cdv : Value} {A : Around} {outer : List Env} {s : Shared} {H : Hp} {E : XK} (hr : Room 1 (A.deeper (envOfC "lies_in_any" (defScope s_lies_in_any) s.heap.objs.size f cdv))) :
    PSs (cxOf CX0 P w K mg base ["key", "stretches", "low", "high"] "lies_in_any" (defScope s_lies_in_any) f cdv A outer s H E).nox (defBody s_lies_in_any) (t_lies_in_any K sp_lies_in) :=
    (pss_one (ps_ret (pe_callB (cr_any rfl) (by rfl) Y.m_any (by decide +kernel) (pa_cons (pe_lc (own := [("low", 2), ("high", 3)]) (by rfl) sc_lies_in_any.nd (pi_tup (pv 1)) (blkOk_by (own := [("low", 2), ("high", 3)]) (N := ["key", "stretches", "low", "high"]) (sc := defScope s_lies_in_any) (by decide +kernel)) (fun _ _ _ _ _ => (pg_tup rfl (pgs_cons (pg_name (i := 2) sc_lies_in_any.nd rfl (Or.inl rfl)) (pgs_cons (pg_name (i := 3) sc_lies_in_any.nd rfl (Or.inl rfl)) pgs_nil)))) (fun _ _ _ _ _ => pts_nil) (fun _ _ _ _ _ => (pe_call G_lies_in (hr.mono (by decide)) (by rfl) Y.g_lies_in Y.F_lies_in.kp Y.b_lies_in .nil pass0 (pa_cons (pv 0) (pa_cons (pv 2) (pa_cons (pv 3) pa_nil)))))) pa_nil))))
def t_changing_names (K : PySem.W.Frag) (sp_lies_in_any : PySem.W.Frag → Sp) : TS :=
    (tRet (tCB (rTUPLE K) (tCons (tCB (rSortedS K) (tCons (tLockE (tLc (iKeys (tVar 0)) (gName 2) (tTru1 K (tCB (rAny K) (tCons (tLc (iTup K (tOp (rIX K) (tDGet (tVar 0) (tVar 2)) (tC (.int 0)))) (gTup K 2 (gCons (gName 3) (gCons (gName 4) gNil))) tYes (tCall (sp_lies_in_any K) [] E0 (tCons (tVar 3) (tCons (tVar 1) tNil))) [3, 4]) tNil))) (tVar 2) [2])) tNil)) tNil)))
theorem b_changing_names (Y : Fx K mg) {sp_lies_in_any : PySem.W.Frag → Sp} (G_lies_in_any : FnOk P w K mg base CX0 2 Y.a_lies_in_any Y.fd_lies_in_any ["key", "stretches"] (sp_lies_in_any K)) {f : Addr} {cdv : Value} {A : Around} {outer : List Env} {s : Shared} {H : Hp} {E : XK} (hr : Room 2 (A.deeper (envOfC "changing_names" (defScope s_changing_names) s.heap.objs.size f cdv))) :
    PSs (cxOf CX0 P w K mg base ["holds", "guards", "name", "key", "_"] "changing_names" (defScope s_changing_names) f cdv A outer s H E).nox (defBody s_changing_names) (t_changing_names K sp_lies_in_any) :=
    (pss_one (ps_ret (pe_callTy call_TUPLE (by rfl) Y.m_tuple (by decide +kernel) (pa_cons (pe_callB cr_sortedS (by rfl) Y.m_sorted (by decide +kernel) (pa_cons (pe_lock (pe_lc (own := [("name", 2)]) (by rfl) sc_changing_names.nd (pi_keys (pv 0)) (blkOk_by (own := [("name", 2)]) (N := ["holds", "guards", "name", "key", "_"]) (sc := defScope s_changing_names) (by decide +kernel)) (fun _ _ _ _ _ => (pg_name (i := 2) sc_changing_names.nd rfl (Or.inl rfl))) (fun _ _ _ _ _ => (pts_one (pt_tru (pe_callB (cr_any rfl) (by rfl) Y.m_any (by decide +kernel) (pa_cons (pe_lc (own := [("key", 3), ("_", 4)]) (by rfl) sc_changing_names.nd (pi_tup (pe_ix ix_SEQ (pe_dget (hu_of hr) (pv 0) (pv 2) (fun _ _ => rfl)) pe_int (fun _ _ => rfl))) (blkOk_by (own := [("key", 3), ("_", 4)]) (N := ["holds", "guards", "name", "key", "_"]) (by kernel_rfl)) (fun _ _ _ _ _ => (pg_tup rfl (pgs_cons (pg_name (i := 3) sc_changing_names.nd rfl (Or.inl rfl)) (pgs_cons (pg_name (i := 4) sc_changing_names.nd rfl (Or.inl rfl)) pgs_nil)))) (fun _ _ _ _ _ => pts_nil) (fun _ _ _ _ _ => (pe_call G_lies_in_any (hr.mono (by decide)) (by rfl) Y.g_lies_in_any Y.F_lies_in_any.kp Y.b_lies_in_any .nil pass0 (pa_cons (pv 3) (pa_cons (pv 1) pa_nil))))) pa_nil)) (by intro _; rfl)))) (fun _ _ _ _ _ => (pv 2)))) pa_nil)) pa_nil))))
def t__law_well (K : PySem.W.Frag)  : TS :=
    (tSeq (tAsg (tCB rINT (tCons (tVar 0) tNil)) (gName 1))
    (tRet (tLst (tCons (tCB rMAX2 (tCons (tC (.int 0)) (tCons (tOp rSUB (tCB rABS (tCons (tVar 1) tNil)) (tOp rPOW (tC (.int 10)) (tC (.int 18)))) tNil))) (tCons (tOp rMOD (tCB rINT (tCons (tOp (rADD K) (tOp (rMUL K) (tVar 1) (tC (.int 7129))) (tC (.int 60013))) tNil)) (tC (.int 2147483489))) (tCons (tC (.int 0)) tNil))))))
theorem b__law_well (Y : Fx K mg)   {f : Addr} {cdv : Value} {A : Around} {outer : List Env} {s : Shared} {H : Hp} {E : XK} (hr : Room 0 (A.deeper (envOfC "_law_well" (defScope s__law_well) s.heap.objs.size f cdv))) :
    PSs (cxOf CX0 P w K mg base ["_law_cell", "_law_number"] "_law_well" (defScope s__law_well) f cdv A outer s H E).nox (defBody s__law_well) (t__law_well K ) :=
    (pss_cons (ps_set (i := 1) sc__law_well.nd rfl (Or.inl rfl) (pe_callTy call_INT (by rfl) Y.m_int (by decide +kernel) (pa_cons (pv 0) pa_nil)))
    (pss_one (ps_ret (pe_lst (pa_cons (pe_callB (call_MAX2 rfl) (by rfl) Y.m_max (by decide +kernel) (pa_cons pe_int (pa_cons (pe_op op_SUB (pe_callB call_ABS (by rfl) Y.m_abs (by decide +kernel) (pa_cons (pv 1) pa_nil)) (pe_op op_POW pe_int pe_int)) pa_nil))) (pa_cons (pe_op op_MOD (pe_callTy call_INT (by rfl) Y.m_int (by decide +kernel) (pa_cons (pe_op op_ADD (pe_op op_MUL (pv 1) pe_int) pe_int) pa_nil)) pe_int) (pa_cons pe_int pa_nil)))))))
def t__law_draw (K : PySem.W.Frag)  : TS :=
    (tSeq (tAsg (tOp (rIX K) (tVar 0) (tC (.int 0))) (gName 2))
    (tSeq (tAsg (tOp (rADD K) (tOp (rIX K) (tVar 0) (tC (.int 2))) (tC (.int 1))) (gSub (tVar 0) (tC (.int 2)) rSetL))
    (tSeq (tAsg (tOp rMOD (tCB rINT (tCons (tOp (rADD K) (tOp (rADD K) (tOp (rMUL K) (tOp (rIX K) (tVar 0) (tC (.int 1))) (tC (.int 16807))) (tOp (rMUL K) (tOp (rIX K) (tVar 0) (tC (.int 2))) (tC (.int 127)))) (tC (.int 3))) tNil)) (tC (.int 2147483489))) (gSub (tVar 0) (tC (.int 1)) rSetL))
    (tSeq (tIfS (tTest (tOp rGT (tVar 2) (tC (.int 0)))) (tSeq (tAsg (tOp rFDIV (tVar 2) (tVar 1)) (gSub (tVar 0) (tC (.int 0)) rSetL))
      (tRet (tOp rMOD (tCB rINT (tCons (tVar 2) tNil)) (tVar 1)))) tNext)
    (tRet (tOp rMOD (tCB rINT (tCons (tOp rFDIV (tOp (rMUL K) (tOp (rIX K) (tVar 0) (tC (.int 1))) (tOp (rADD K) (tOp rFDIV (tOp (rIX K) (tVar 0) (tC (.int 1))) (tC (.int 53))) (tC (.int 19)))) (tC (.int 7919))) tNil)) (tVar 1)))))))
theorem b__law_draw (Y : Fx K mg)   {f : Addr} {cdv : Value} {A : Around} {outer : List Env} {s : Shared} {H : Hp} {E : XK} (hr : Room 0 (A.deeper (envOfC "_law_draw" (defScope s__law_draw) s.heap.objs.size f cdv))) :
    PSs (cxOf CX0 P w K mg base ["_law_well_here", "_law_many", "_law_full"] "_law_draw" (defScope s__law_draw) f cdv A outer s H E).nox (defBody s__law_draw) (t__law_draw K ) :=
    (pss_cons (ps_set (i := 2) sc__law_draw.nd rfl (Or.inl rfl) (pe_ix ix_SEQ (pv 0) pe_int (fun _ _ => rfl)))
    (pss_cons (ps_asg (pe_op op_ADD (pe_ix ix_SEQ (pv 0) pe_int (fun _ _ => rfl)) pe_int) (pg_sub (pv 0) pe_int set_list))
    (pss_cons (ps_asg (pe_op op_MOD (pe_callTy call_INT (by rfl) Y.m_int (by decide +kernel) (pa_cons (pe_op op_ADD (pe_op op_ADD (pe_op op_MUL (pe_ix ix_SEQ (pv 0) pe_int (fun _ _ => rfl)) pe_int) (pe_op op_MUL (pe_ix ix_SEQ (pv 0) pe_int (fun _ _ => rfl)) pe_int)) pe_int) pa_nil)) pe_int) (pg_sub (pv 0) pe_int set_list))
    (pss_cons (ps_if (pt_cmpR op_GT (pv 2) pe_int (nomark _)) (pss_cons (ps_asg (pe_op op_FDIV (pv 2) (pv 1)) (pg_sub (pv 0) pe_int set_list))
      (pss_one (ps_ret (pe_op op_MOD (pe_callTy call_INT (by rfl) Y.m_int (by decide +kernel) (pa_cons (pv 2) pa_nil)) (pv 1))))) pss_nil)
    (pss_one (ps_ret (pe_op op_MOD (pe_callTy call_INT (by rfl) Y.m_int (by decide +kernel) (pa_cons (pe_op op_FDIV (pe_op op_MUL (pe_ix ix_SEQ (pv 0) pe_int (fun _ _ => rfl)) (pe_op op_ADD (pe_op op_FDIV (pe_ix ix_SEQ (pv 0) pe_int (fun _ _ => rfl)) pe_int) pe_int)) pe_int) pa_nil)) (pv 1))))))))
def t__law_same (K : PySem.W.Frag) (sp__law_same : PySem.W.Frag → Sp) : TS :=
    (tSeq (tIfS (tTest (tOp (rIS K) (tVar 1) (tC .non))) (tRet (tOp (rIS K) (tVar 0) (tC .non))) tNext)
    (tSeq (tIfS (tOr (tTest (tOp (rIS K) (tVar 1) (tC (.bl true)))) (tTest (tOp (rIS K) (tVar 1) (tC (.bl false))))) (tRet (tIf (tTru1 K (tVar 1)) (tOp (rIS K) (tVar 0) (tC (.bl true))) (tOp (rIS K) (tVar 0) (tC (.bl false))))) tNext)
    (tSeq (tIfS (tTru1 K (tCB (rISI K) (tCons (tVar 1) (tCons (tC (.ty "str")) tNil)))) (tRet (tAndV (tCB (rISI K) (tCons (tVar 0) (tCons (tC (.ty "str")) tNil))) (tOp (rEQ K) (tVar 0) (tVar 1)))) tNext)
    (tSeq (tIfS (tOr (tTru1 K (tCB (rISI K) (tCons (tVar 1) (tCons (tC (.ty "tuple")) tNil)))) (tTru1 K (tCB (rISI K) (tCons (tVar 1) (tCons (tC (.ty "list")) tNil))))) (tSeq (tIfS (tOr (tTest (tOp (rNE K) (tCB (rISI K) (tCons (tVar 0) (tCons (tC (.ty "tuple")) tNil))) (tCB (rISI K) (tCons (tVar 1) (tCons (tC (.ty "tuple")) tNil))))) (tTest (tOp (rNE K) (tCB (rISI K) (tCons (tVar 0) (tCons (tC (.ty "list")) tNil))) (tCB (rISI K) (tCons (tVar 1) (tCons (tC (.ty "list")) tNil)))))) (tRet (tC (.bl false))) tNext)
      (tRet (tAndV (tOp (rEQ K) (tCB (rLEN K) (tCons (tVar 0) tNil)) (tCB (rLEN K) (tCons (tVar 1) tNil))) (tOp (rEQ K) (tLc (iRng1 (tCons (tCB (rLEN K) (tCons (tVar 1) tNil)) tNil)) (gName 2) (tNot (tTru1 K (tCall (sp__law_same K) [] E0 (tCons (tOp (rIX K) (tVar 0) (tVar 2)) (tCons (tOp (rIX K) (tVar 1) (tVar 2)) tNil))))) (tVar 2) [2]) (tLst tNil))))) tNext)
    (tRet (tAndV (tCB (rISI K) (tCons (tVar 0) (tCons (tC (.ty "int")) tNil))) (tAndV (tOp (rISN K) (tVar 0) (tC (.bl true))) (tAndV (tOp (rISN K) (tVar 0) (tC (.bl false))) (tOp (rEQ K) (tVar 0) (tVar 1))))))))))
theorem b__law_same {n : Nat} (Y : Fx K mg) {sp__law_same : PySem.W.Frag → Sp} (G__law_same : FnOk P w K mg base CX0 n Y.a__law_same Y.fd__law_same ["_law_found", "_law_due"] (sp__law_same K)) {f : Addr} {cdv : Value} {A : Around} {outer : List Env} {s : Shared} {H : Hp} {E : XK} (hn : 0 ≤ n) (hr : Room n (A.deeper (envOfC "_law_same" (defScope s__law_same) s.heap.objs.size f cdv))) :
    PSs (cxOf CX0 P w K mg base ["_law_found", "_law_due", "_law_k"] "_law_same" (defScope s__law_same) f cdv A outer s H E).nox (defBody s__law_same) (t__law_same K sp__law_same) :=
    (pss_cons (ps_if (pt_cmpR op_IS (pv 1) pe_non (nomark _)) (pss_one (ps_ret (pe_cmpR op_IS (pv 0) pe_non (nomark _)))) pss_nil)
    (pss_cons (ps_if (PW.pt (pw_or (pt_cmpR op_IS (pv 1) pe_bl (nomark _)) (pw_or1 (pt_cmpR op_IS (pv 1) pe_bl (nomark _))))) (pss_one (ps_ret (pe_ifExp (pt_tru (pv 1) (by intro _; rfl)) (pe_cmpR op_IS (pv 0) pe_bl (nomark _)) (pe_cmpR op_IS (pv 0) pe_bl (nomark _))))) pss_nil)
    (pss_cons (ps_if (pt_tru (pe_callB call_ISI (by rfl) Y.m_isinstance (by decide +kernel) (pa_cons (pv 1) (pa_cons (pe_bltn (v := .ty "str") (by rfl) Y.m_str (by decide +kernel) rfl) pa_nil))) (by intro _; rfl)) (pss_one (ps_ret (pe_and (pe_callB call_ISI (by rfl) Y.m_isinstance (by decide +kernel) (pa_cons (pv 0) (pa_cons (pe_bltn (v := .ty "str") (by rfl) Y.m_str (by decide +kernel) rfl) pa_nil))) (pe_one (pe_cmpR (op_EQ (hu_64 hr)) (pv 0) (pv 1) (nomark _)))))) pss_nil)
    (pss_cons (ps_if (PW.pt (pw_or (pt_tru (pe_callB call_ISI (by rfl) Y.m_isinstance (by decide +kernel) (pa_cons (pv 1) (pa_cons (pe_bltn (v := .ty "tuple") (by rfl) Y.m_tuple (by decide +kernel) rfl) pa_nil))) (by intro _; rfl)) (pw_or1 (pt_tru (pe_callB call_ISI (by rfl) Y.m_isinstance (by decide +kernel) (pa_cons (pv 1) (pa_cons (pe_bltn (v := .ty "list") (by rfl) Y.m_list (by decide +kernel) rfl) pa_nil))) (by intro _; rfl))))) (pss_cons (ps_if (PW.pt (pw_or (pt_cmpR (op_NE (hu_64 hr)) (pe_callB call_ISI (by rfl) Y.m_isinstance (by decide +kernel) (pa_cons (pv 0) (pa_cons (pe_bltn (v := .ty "tuple") (by rfl) Y.m_tuple (by decide +kernel) rfl) pa_nil))) (pe_callB call_ISI (by rfl) Y.m_isinstance (by decide +kernel) (pa_cons (pv 1) (pa_cons (pe_bltn (v := .ty "tuple") (by rfl) Y.m_tuple (by decide +kernel) rfl) pa_nil))) (nomark _)) (pw_or1 (pt_cmpR (op_NE (hu_64 hr)) (pe_callB call_ISI (by rfl) Y.m_isinstance (by decide +kernel) (pa_cons (pv 0) (pa_cons (pe_bltn (v := .ty "list") (by rfl) Y.m_list (by decide +kernel) rfl) pa_nil))) (pe_callB call_ISI (by rfl) Y.m_isinstance (by decide +kernel) (pa_cons (pv 1) (pa_cons (pe_bltn (v := .ty "list") (by rfl) Y.m_list (by decide +kernel) rfl) pa_nil))) (nomark _))))) (pss_one (ps_ret pe_bl)) pss_nil)
      (pss_one (ps_ret (pe_and (pe_cmpR (op_EQ (hu_64 hr)) (pe_callB call_LEN (by rfl) Y.m_len (by decide +kernel) (pa_cons (pv 0) pa_nil)) (pe_callB call_LEN (by rfl) Y.m_len (by decide +kernel) (pa_cons (pv 1) pa_nil)) (nomark _)) (pe_one (pe_cmpR (op_EQ (hu_64 hr)) (pe_lc (own := [("_law_k", 2)]) (by rfl) sc__law_same.nd (pi_range1 (by rfl) Y.m_range (pa_cons (pe_callB call_LEN (by rfl) Y.m_len (by decide +kernel) (pa_cons (pv 1) pa_nil)) pa_nil)) (blkOk_by (own := [("_law_k", 2)]) (N := ["_law_found", "_law_due", "_law_k"]) (sc := defScope s__law_same) (by decide +kernel)) (fun _ _ _ _ _ => (pg_name (i := 2) sc__law_same.nd rfl (Or.inl rfl))) (fun _ _ _ _ _ => (pts_one (pt_not (pt_tru (pe_call G__law_same hr (by rfl) Y.g__law_same Y.F__law_same.kp Y.b__law_same .nil pass0 (pa_cons (pe_ix ix_SEQ (pv 0) (pv 2) (fun _ _ => rfl)) (pa_cons (pe_ix ix_SEQ (pv 1) (pv 2) (fun _ _ => rfl)) pa_nil))) (by intro _; rfl))))) (fun _ _ _ _ _ => (pv 2))) (pe_lst pa_nil) (nomark _))))))) pss_nil)
    (pss_one (ps_ret (pe_and (pe_callB call_ISI (by rfl) Y.m_isinstance (by decide +kernel) (pa_cons (pv 0) (pa_cons (pe_bltn (v := .ty "int") (by rfl) Y.m_int (by decide +kernel) rfl) pa_nil))) (pe_and (pe_cmpR op_ISN (pv 0) pe_bl (nomark _)) (pe_and (pe_cmpR op_ISN (pv 0) pe_bl (nomark _)) (pe_one (pe_cmpR (op_EQ (hu_64 hr)) (pv 0) (pv 1) (nomark _))))))))))))
def t__law_key (K : PySem.W.Frag) (sp__law_draw : PySem.W.Frag → Sp) : TS :=
    (tRet (tOp (rIX K) (tLst (tCons (tC (.str "a")) (tCons (tC (.str "ab")) (tCons (tC (.str "b")) (tCons (tC (.str "ba")) (tCons (tC (.str "c")) (tCons (tC (.str "")) tNil))))))) (tCall (sp__law_draw K) [] E0 (tCons (tVar 0) (tCons (tC (.int 6)) tNil)))))
theorem b__law_key (Y : Fx K mg) {sp__law_draw : PySem.W.Frag → Sp} (G__law_draw : FnOk P w K mg base CX0 1 Y.a__law_draw Y.fd__law_draw ["_law_well_here", "_law_many"] (sp__law_draw K)) {f : Addr} {cdv : Value} {A : Around} {outer : List Env} {s : Shared} {H : Hp} {E : XK} (hr : Room 1 (A.deeper (envOfC "_law_key" (defScope s__law_key) s.heap.objs.size f cdv))) :
    PSs (cxOf CX0 P w K mg base ["_law_well_here"] "_law_key" (defScope s__law_key) f cdv A outer s H E).nox (defBody s__law_key) (t__law_key K sp__law_draw) :=
    (pss_one (ps_ret (pe_ix ix_SEQ (pe_lst (pa_cons pe_str (pa_cons pe_str (pa_cons pe_str (pa_cons pe_str (pa_cons pe_str (pa_cons pe_str pa_nil))))))) (pe_call G__law_draw (hr.mono (by decide)) (by rfl) Y.g__law_draw Y.F__law_draw.kp Y.b__law_draw .nil pass0 (pa_cons (pv 0) (pa_cons pe_int pa_nil))) (fun _ _ => rfl))))
def t__law_changes (K : PySem.W.Frag) (sp__law_draw : PySem.W.Frag → Sp) (sp__law_key : PySem.W.Frag → Sp) : TS :=
    (tSeq (tAsg tDNewK (gName 3))
    (tSeq (tFor (iRng1 (tCons (tOp (rADD K) (tVar 1) (tCall (sp__law_draw K) [] E0 (tCons (tVar 0) (tCons (tOp (rADD K) (tOp rSUB (tVar 2) (tVar 1)) (tC (.int 1))) tNil)))) tNil)) (gName 4) (sDPut (tVar 3) (tCall (sp__law_key K) [] E0 (tCons (tVar 0) tNil)) (tOp (rIX K) (tLst (tCons (tC .non) (tCons (tC (.str "x")) (tCons (tC (.str "")) tNil)))) (tCall (sp__law_draw K) [] E0 (tCons (tVar 0) (tCons (tC (.int 3)) tNil))))))
    (tRet (tCB (rTUPLE K) (tCons (tLc (iList K (tCB rSortD (tCons (tVar 3) tNil))) (gName 5) tYes (tTup (tCons (tVar 5) (tCons (tDGet (tVar 3) (tVar 5)) tNil))) [5]) tNil)))))
theorem b__law_changes (Y : Fx K mg) {sp__law_draw : PySem.W.Frag → Sp} {sp__law_key : PySem.W.Frag → Sp} (G__law_draw : FnOk P w K mg base CX0 1 Y.a__law_draw Y.fd__law_draw ["_law_well_here", "_law_many"] (sp__law_draw K)) (G__law_key : FnOk P w K mg base CX0 2 Y.a__law_key Y.fd__law_key ["_law_well_here"] (sp__law_key K)) {f : Addr} {cdv : Value} {A : Around} {outer : List Env} {s : Shared} {H : Hp} {E : XK} (hr : Room 2 (A.deeper (envOfC "_law_changes" (defScope s__law_changes) s.heap.objs.size f cdv))) :
    PSs (cxOf CX0 P w K mg base ["_law_well_here", "_law_least", "_law_most", "_law_found", "_law_k", "_law_key_here"] "_law_changes" (defScope s__law_changes) f cdv A outer s H E).nox (defBody s__law_changes) (t__law_changes K sp__law_draw sp__law_key) :=
    (pss_cons (ps_set (i := 3) sc__law_changes.nd rfl (Or.inr rfl) pe_dnewK)
    (pss_cons (ps_for PassesOwn.never rfl (pi_range1 (by rfl) Y.m_range (pa_cons (pe_op op_ADD (pv 1) (pe_call G__law_draw (hr.mono (by decide)) (by rfl) Y.g__law_draw Y.F__law_draw.kp Y.b__law_draw .nil pass0 (pa_cons (pv 0) (pa_cons (pe_op op_ADD (pe_op op_SUB (pv 2) (pv 1)) pe_int) pa_nil)))) pa_nil)) (pg_name (i := 4) sc__law_changes.nd rfl (Or.inl rfl)) (pss_one (ps_dput (hu_of hr) (pv 3) (pe_call G__law_key (hr.mono (by decide)) (by rfl) Y.g__law_key Y.F__law_key.kp Y.b__law_key .nil pass0 (pa_cons (pv 0) pa_nil)) (pe_ix ix_SEQ (pe_lst (pa_cons pe_non (pa_cons pe_str (pa_cons pe_str pa_nil)))) (pe_call G__law_draw (hr.mono (by decide)) (by rfl) Y.g__law_draw Y.F__law_draw.kp Y.b__law_draw .nil pass0 (pa_cons (pv 0) (pa_cons pe_int pa_nil))) (fun _ _ => rfl)) (by rfl))))
    (pss_one (ps_ret (pe_callTy call_TUPLE (by rfl) Y.m_tuple (by decide +kernel) (pa_cons (pe_lc (own := [("_law_key_here", 5)]) (by rfl) sc__law_changes.nd (pi_list (pe_callB (call_SORTD rfl) (by rfl) Y.m_sorted (by decide +kernel) (pa_cons (pv 3) pa_nil))) (blkOk_by (own := [("_law_key_here", 5)]) (N := ["_law_well_here", "_law_least", "_law_most", "_law_found", "_law_k", "_law_key_here"]) (sc := defScope s__law_changes) (by decide +kernel)) (fun _ _ _ _ _ => (pg_name (i := 5) sc__law_changes.nd rfl (Or.inl rfl))) (fun _ _ _ _ _ => pts_nil) (fun _ _ _ _ _ => (pe_tup (pa_cons (pv 5) (pa_cons (pe_dget (hu_of hr) (pv 3) (pv 5) (fun _ _ => rfl)) pa_nil))))) pa_nil))))))
def t__law_guards (K : PySem.W.Frag) (sp__law_draw : PySem.W.Frag → Sp) (sp__law_key : PySem.W.Frag → Sp) : TS :=
    (tSeq (tAsg (tLst tNil) (gName 2))
    (tSeq (tFor (iRng1 (tCons (tCall (sp__law_draw K) [] E0 (tCons (tVar 0) (tCons (tOp (rADD K) (tVar 1) (tC (.int 1))) tNil))) tNil)) (gName 3) (tSeq (tPar 4 5 (tCons (tCall (sp__law_key K) [] E0 (tCons (tVar 0) tNil)) (tCons (tCall (sp__law_key K) [] E0 (tCons (tVar 0) tNil)) tNil)))
      (tDrop (tBM K "list" rAppend (tVar 2) (tCons (tOp (rIX K) (tLst (tCons (tTup (tCons (tVar 4) (tCons (tVar 5) tNil))) (tCons (tTup (tCons (tC .non) (tCons (tVar 5) tNil))) (tCons (tTup (tCons (tVar 4) (tCons (tC .non) tNil))) (tCons (tTup (tCons (tC .non) (tCons (tC .non) tNil))) tNil))))) (tOp (rIX K) (tLst (tCons (tC (.int 0)) (tCons (tC (.int 0)) (tCons (tC (.int 1)) (tCons (tC (.int 2)) (tCons (tC (.int 3)) tNil)))))) (tCall (sp__law_draw K) [] E0 (tCons (tVar 0) (tCons (tC (.int 5)) tNil))))) tNil)))))
    (tRet (tCB (rTUPLE K) (tCons (tVar 2) tNil)))))
theorem b__law_guards (Y : Fx K mg) {sp__law_draw : PySem.W.Frag → Sp} {sp__law_key : PySem.W.Frag → Sp} (G__law_draw : FnOk P w K mg base CX0 1 Y.a__law_draw Y.fd__law_draw ["_law_well_here", "_law_many"] (sp__law_draw K)) (G__law_key : FnOk P w K mg base CX0 2 Y.a__law_key Y.fd__law_key ["_law_well_here"] (sp__law_key K)) {f : Addr} {cdv : Value} {A : Around} {outer : List Env} {s : Shared} {H : Hp} {E : XK} (hr : Room 2 (A.deeper (envOfC "_law_guards" (defScope s__law_guards) s.heap.objs.size f cdv))) :
    PSs (cxOf CX0 P w K mg base ["_law_well_here", "_law_most", "_law_some", "_law_k", "_law_low", "_law_high"] "_law_guards" (defScope s__law_guards) f cdv A outer s H E).nox (defBody s__law_guards) (t__law_guards K sp__law_draw sp__law_key) :=
    (pss_cons (ps_set (i := 2) sc__law_guards.nd rfl (Or.inl rfl) (pe_lst pa_nil))
    (pss_cons (ps_for PassesOwn.never rfl (pi_range1 (by rfl) Y.m_range (pa_cons (pe_call G__law_draw (hr.mono (by decide)) (by rfl) Y.g__law_draw Y.F__law_draw.kp Y.b__law_draw .nil pass0 (pa_cons (pv 0) (pa_cons (pe_op op_ADD (pv 1) pe_int) pa_nil))) pa_nil)) (pg_name (i := 3) sc__law_guards.nd rfl (Or.inl rfl)) (pss_cons (ps_par (i := 4) (j := 5) (by rfl) sc__law_guards.nd rfl rfl (by decide) rfl rfl (pa_cons (pe_call G__law_key (hr.mono (by decide)) (by rfl) Y.g__law_key Y.F__law_key.kp Y.b__law_key .nil pass0 (pa_cons (pv 0) pa_nil)) (pa_cons (pe_call G__law_key (hr.mono (by decide)) (by rfl) Y.g__law_key Y.F__law_key.kp Y.b__law_key .nil pass0 (pa_cons (pv 0) pa_nil)) pa_nil)) (by rfl))
      (pss_one (ps_expr (pe_bm PySem.F.plainAttrs_list PySem.F.slot_list_append PySem.F.type_list_append mt_append (pv 2) (pa_cons (pe_ix ix_SEQ (pe_lst (pa_cons (pe_tup (pa_cons (pv 4) (pa_cons (pv 5) pa_nil))) (pa_cons (pe_tup (pa_cons pe_non (pa_cons (pv 5) pa_nil))) (pa_cons (pe_tup (pa_cons (pv 4) (pa_cons pe_non pa_nil))) (pa_cons (pe_tup (pa_cons pe_non (pa_cons pe_non pa_nil))) pa_nil))))) (pe_ix ix_SEQ (pe_lst (pa_cons pe_int (pa_cons pe_int (pa_cons pe_int (pa_cons pe_int (pa_cons pe_int pa_nil)))))) (pe_call G__law_draw (hr.mono (by decide)) (by rfl) Y.g__law_draw Y.F__law_draw.kp Y.b__law_draw .nil pass0 (pa_cons (pv 0) (pa_cons pe_int pa_nil))) (fun _ _ => rfl)) (fun _ _ => rfl)) pa_nil))))))
    (pss_one (ps_ret (pe_callTy call_TUPLE (by rfl) Y.m_tuple (by decide +kernel) (pa_cons (pv 2) pa_nil))))))
def t__law_lies (K : PySem.W.Frag)  : TS :=
    (tSeq (tFor (iTup K (tVar 1)) (gTup K 2 (gCons (gName 2) (gCons (gName 3) gNil))) (tIfS (tAnd (tOr (tTest (tOp (rIS K) (tVar 2) (tC .non))) (tTest (tOp rLE (tVar 2) (tVar 0)))) (tOr (tTest (tOp (rIS K) (tVar 3) (tC .non))) (tTest (tOp rLT (tVar 0) (tVar 3))))) (tRet (tC (.bl true))) tNext))
    (tRet (tC (.bl false))))
theorem b__law_lies (Y : Fx K mg)   {f : Addr} {cdv : Value} {A : Around} {outer : List Env} {s : Shared} {H : Hp} {E : XK} (hr : Room 0 (A.deeper (envOfC "_law_lies" (defScope s__law_lies) s.heap.objs.size f cdv))) :
    PSs (cxOf CX0 P w K mg base ["_law_key_here", "_law_guards_here", "_law_low", "_law_high"] "_law_lies" (defScope s__law_lies) f cdv A outer s H E).nox (defBody s__law_lies) (t__law_lies K ) :=
    (pss_cons (ps_for PassesOwn.never rfl (pi_tup (pv 1)) (pg_tup rfl (pgs_cons (pg_name (i := 2) sc__law_lies.nd rfl (Or.inl rfl)) (pgs_cons (pg_name (i := 3) sc__law_lies.nd rfl (Or.inl rfl)) pgs_nil))) (pss_one (ps_if (PW.pt (pw_and (PW.pt (pw_or (pt_cmpR op_IS (pv 2) pe_non (nomark _)) (pw_or1 (pt_cmpR op_LE (pv 2) (pv 0) (nomark _))))) (pw_and1 (PW.pt (pw_or (pt_cmpR op_IS (pv 3) pe_non (nomark _)) (pw_or1 (pt_cmpR op_LT (pv 0) (pv 3) (nomark _)))))))) (pss_one (ps_ret pe_bl)) pss_nil)))
    (pss_one (ps_ret pe_bl)))
def t__law_is_refused (K : PySem.W.Frag) {mg : Str → Option Value} (Y : Fx K mg) (sp_held_names : PySem.W.Frag → Sp) : TS :=
    (tSeq (tTry K W0 [(.ref Y.x_InvalidChanges, fun _ _ _ => (tRet (tC (.bl true))))] (fun W => (tDrop (tCallS (sp_held_names K) (WE W) (tCons (tVar 0) (tCons (tVar 1) tNil))))))
    (tRet (tC (.bl false))))
theorem b__law_is_refused (Y : Fx K mg) {sp_held_names : PySem.W.Frag → Sp} (G_held_names : FnOk P w K mg base (L2.CX P w) 5 Y.a_held_names Y.fd_held_names ["holds", "changes"] (sp_held_names K)) {f : Addr} {cdv : Value} {A : Around} {outer : List Env} {s : Shared} {H : Hp} {E : XK} (hr : Room 5 (A.deeper (envOfC "_law_is_refused" (defScope s__law_is_refused) s.heap.objs.size f cdv))) :
    PSs (cxOf CX0 P w K mg base ["_law_holds", "_law_changes_here"] "_law_is_refused" (defScope s__law_is_refused) f cdv A outer s H E).nox (defBody s__law_is_refused) (t__law_is_refused K Y sp_held_names) :=
    (pss_cons (ps_tryM (tb := fun W => (tDrop (tCallS (sp_held_names K) (WE W) (tCons (tVar 0) (tCons (tVar 1) tNil))))) (l := [(.ref Y.x_InvalidChanges, fun _ _ _ => (tRet (tC (.bl true))))]) (Wout := W0) rfl rfl takes0 (fun W pn xe tk po => (pss_one (ps_expr (pe_callS G_held_names (hr.mono (by decide)) (by rfl) Y.g_held_names Y.F_held_names.kp Y.b_held_names (fun σ => passAt tk σ) (pa_cons (pv 0) (pa_cons (pv 1) pa_nil)))))) (.cons ⟨rfl, by decide, Or.inl Y.q_InvalidChanges⟩ (fun a oe cls d pn _ _ => (pss_one (ps_ret pe_bl))) .nil))
    (pss_one (ps_ret pe_bl)))
def t_law (K : PySem.W.Frag) (sp__law_changes : PySem.W.Frag → Sp) (sp__law_draw : PySem.W.Frag → Sp) (sp__law_guards : PySem.W.Frag → Sp) (sp__law_is_refused : PySem.W.Frag → Sp) (sp__law_lies : PySem.W.Frag → Sp) (sp__law_same : PySem.W.Frag → Sp) (sp__law_well : PySem.W.Frag → Sp) (sp_changing_names : PySem.W.Frag → Sp) (sp_held_names : PySem.W.Frag → Sp) : TS :=
    (tSeq (tFor (iList K (tSl (rSL K) (tOp (rADD K) (tCB (rLIST K) (tCons (tVar 0) tNil)) (tLst (tCons (tC (.int 0)) tNil))) tNoPart (tPart (tC (.int 20))))) (gName 1) (tSeq (tAsg (tCall (sp__law_well K) [] E0 (tCons (tVar 1) tNil)) (gName 2))
      (tSeq (tAsg tDNewK (gName 3))
      (tSeq (tFor (iRng1 (tCons (tCall (sp__law_draw K) [] E0 (tCons (tVar 2) (tCons (tC (.int 5)) tNil))) tNil)) (gName 4) (tSeq (tAsg (tOp (rIX K) (tLst (tCons (tC (.str "b")) (tCons (tC (.str "a")) (tCons (tC (.str "ab")) (tCons (tC (.str "zz")) (tCons (tC (.str "m")) (tCons (tC (.str "aa")) tNil))))))) (tCall (sp__law_draw K) [] E0 (tCons (tVar 2) (tCons (tC (.int 6)) tNil)))) (gName 6))
        (sDPut (tVar 3) (tVar 6) (tTup (tCons (tCall (sp__law_changes K) [] E0 (tCons (tVar 2) (tCons (tC (.int 1)) (tCons (tC (.int 3)) tNil)))) (tCons (tCall (sp__law_guards K) [] E0 (tCons (tVar 2) (tCons (tC (.int 2)) tNil))) tNil))))))
      (tSeq (tAsg (tTup (tCons (tCall (sp__law_changes K) [] E0 (tCons (tVar 2) (tCons (tC (.int 0)) (tCons (tC (.int 4)) tNil)))) (tCons (tCall (sp__law_guards K) [] E0 (tCons (tVar 2) (tCons (tC (.int 4)) tNil))) tNil))) (gTup K 2 (gCons (gName 9) (gCons (gName 10) gNil))))
      (tSeq (tAsg (tLc (iTup K (tVar 9)) (gTup K 2 (gCons (gName 14) (gCons (gName 15) gNil))) tYes (tVar 14) [14, 15]) (gName 5))
      (tSeq (tPar 11 12 (tCons (tLst tNil) (tCons (tLst tNil) tNil)))
      (tSeq (tFor (iList K (tCB rSortD (tCons (tVar 3) tNil))) (gName 6) (tSeq (tAsg (tLc (iTup K (tOp (rIX K) (tDGet (tVar 3) (tVar 6)) (tC (.int 0)))) (gTup K 2 (gCons (gName 14) (gCons (gName 15) gNil))) tYes (tVar 14) [14, 15]) (gName 13))
        (Evl.tCut (tIfS (tTest (tOp (rNE K) (tLc (iList K (tVar 5)) (gName 14) (tOr (tTest (tOp (rINU K) (tVar 14) (tVar 13))) (tTru1 K (tCall (sp__law_lies K) [] E0 (tCons (tVar 14) (tCons (tOp (rIX K) (tDGet (tVar 3) (tVar 6)) (tC (.int 1))) tNil))))) (tVar 14) [14]) (tLst tNil))) (tDrop (tBM K "list" rAppend (tVar 11) (tCons (tVar 6) tNil))) tNext)
        (tIfS (tTest (tOp (rNE K) (tLc (iList K (tVar 13)) (gName 14) (tTru1 K (tCall (sp__law_lies K) [] E0 (tCons (tVar 14) (tCons (tVar 10) tNil)))) (tVar 14) [14]) (tLst tNil))) (tDrop (tBM K "list" rAppend (tVar 12) (tCons (tVar 6) tNil))) tNext))))
      (tSeq (tAsg tDNewK (gName 7))
      (tSeq (tFor (iList K (tCKw rSortDR (tCons (tVar 3) tNil) (tCons (tC (.bl true)) tNil))) (gName 6) (sDPut (tVar 7) (tVar 6) (tDGet (tVar 3) (tVar 6))))
      (tSeq (tIfS (tNot (tTru1 K (tCall (sp__law_same K) [] E0 (tCons (tCallK0 (sp_held_names K) gV_kb_held_names_0 E0 (tCons (tVar 9) (tCons (tVar 7) tNil))) (tCons (tCB (rTUPLE K) (tCons (tVar 11) tNil)) tNil))))) (tRet (tC (.bl false))) tNext)
      (tSeq (tIfS (tNot (tTru1 K (tCall (sp__law_same K) [] E0 (tCons (tCallK0 (sp_changing_names K) gV_kb_changing_names_0 E0 (tCons (tVar 10) (tCons (tVar 7) tNil))) (tCons (tCB (rTUPLE K) (tCons (tVar 12) tNil)) tNil))))) (tRet (tC (.bl false))) tNext)
      (tSeq (tAsg (tLst (tCons (tCB (rLIST K) (tCons (tVar 9) tNil)) (tCons (tTup (tCons (tTup (tCons (tC (.str "b")) (tCons (tC (.str "x")) tNil))) (tCons (tTup (tCons (tC (.str "a")) (tCons (tC (.str "x")) tNil))) tNil))) (tCons (tTup (tCons (tTup (tCons (tC (.str "a")) (tCons (tC (.str "x")) tNil))) (tCons (tTup (tCons (tC (.str "a")) (tCons (tC .non) tNil))) tNil))) (tCons (tTup (tCons (tTup (tCons (tC (.str "a")) tNil)) tNil)) (tCons (tC .non) (tCons (tTup (tCons (tTup (tCons (tC (.str "a")) (tCons (tC (.int 1)) tNil))) tNil)) tNil))))))) (gName 8))
      (tSeq (tIfS (tNot (tTru1 K (tCall (sp__law_is_refused K) [] E0 (tCons (tVar 7) (tCons (tOp (rIX K) (tVar 8) (tCall (sp__law_draw K) [] E0 (tCons (tVar 2) (tCons (tC (.int 6)) tNil)))) tNil))))) (tRet (tC (.bl false))) tNext)
      (tIfS (tOr (tTest (tOp (rNE K) (tCB rSortD (tCons (tVar 7) tNil)) (tCB rSortD (tCons (tVar 3) tNil)))) (tTest (tOp (rNE K) (tLockE (tLc (iKeys (tVar 3)) (gName 6) (tNot (tTru1 K (tCall (sp__law_same K) [] E0 (tCons (tDGet (tVar 7) (tVar 6)) (tCons (tDGet (tVar 3) (tVar 6)) tNil))))) (tVar 6) [6])) (tLst tNil)))) (tRet (tC (.bl false))) tNext)))))))))))))))
    (tRet (tC (.bl true))))
theorem b_law (Y : Fx K mg) {sp__law_changes : PySem.W.Frag → Sp} {sp__law_draw : PySem.W.Frag → Sp} {sp__law_guards : PySem.W.Frag → Sp} {sp__law_is_refused : PySem.W.Frag → Sp} {sp__law_lies : PySem.W.Frag → Sp} {sp__law_same : PySem.W.Frag → Sp} {sp__law_well : PySem.W.Frag → Sp} {sp_changing_names : PySem.W.Frag → Sp} {sp_held_names : PySem.W.Frag → Sp} (G__law_changes : FnOk P w K mg base CX0 3 Y.a__law_changes Y.fd__law_changes ["_law_well_here", "_law_least", "_law_most"] (sp__law_changes K)) (G__law_draw : FnOk P w K mg base CX0 1 Y.a__law_draw Y.fd__law_draw ["_law_well_here", "_law_many"] (sp__law_draw K)) (G__law_guards : FnOk P w K mg base CX0 3 Y.a__law_guards Y.fd__law_guards ["_law_well_here", "_law_most"] (sp__law_guards K)) (G__law_is_refused : FnOk P w K mg base CX0 6 Y.a__law_is_refused Y.fd__law_is_refused ["_law_holds", "_law_changes_here"] (sp__law_is_refused K)) (G__law_lies : FnOk P w K mg base CX0 1 Y.a__law_lies Y.fd__law_lies ["_law_key_here", "_law_guards_here"] (sp__law_lies K)) (G__law_same : FnOk P w K mg base CX0 5 Y.a__law_same Y.fd__law_same ["_law_found", "_law_due"] (sp__law_same K)) (G__law_well : FnOk P w K mg base CX0 1 Y.a__law_well Y.fd__law_well ["_law_cell"] (sp__law_well K)) (G_changing_names : FnOk P w K mg base CX0 3 Y.a_changing_names Y.fd_changing_names ["holds", "guards"] (sp_changing_names K)) (G_held_names : FnOk P w K mg base (L2.CX P w) 5 Y.a_held_names Y.fd_held_names ["holds", "changes"] (sp_held_names K)) {f : Addr} {cdv : Value} {A : Around} {outer : List Env} {s : Shared} {H : Hp} {E : XK} (hr : Room 6 (A.deeper (envOfC "law" (defScope s_law) s.heap.objs.size f cdv))) :
    PSs (cxOf CX0 P w K mg base ["_law_script", "_law_cell", "_law_well_here", "_law_holds", "_law_k", "_law_keys", "_law_name", "_law_passed", "_law_bad", "_law_changes_here", "_law_guards_here", "_law_held", "_law_changing", "_law_own", "_law_key_here", "_law_value"] "law" (defScope s_law) f cdv A outer s H E).nox (defBody s_law) (t_law K sp__law_changes sp__law_draw sp__law_guards sp__law_is_refused sp__law_lies sp__law_same sp__law_well sp_changing_names sp_held_names) :=
    (pss_cons (ps_for PassesOwn.never rfl (pi_list (pe_slice sl_SEQ (pe_op op_ADD (pe_callTy call_LIST (by rfl) Y.m_list (by decide +kernel) (pa_cons (pv 0) pa_nil)) (pe_lst (pa_cons pe_int pa_nil))) po_none (po_some pe_int))) (pg_name (i := 1) sc_law.nd rfl (Or.inl rfl)) (pss_cons (ps_set (i := 2) sc_law.nd rfl (Or.inl rfl) (pe_call G__law_well (hr.mono (by decide)) (by rfl) Y.g__law_well Y.F__law_well.kp Y.b__law_well .nil pass0 (pa_cons (pv 1) pa_nil)))
      (pss_cons (ps_set (i := 3) sc_law.nd rfl (Or.inr rfl) pe_dnewK)
      (pss_cons (ps_for PassesOwn.never rfl (pi_range1 (by rfl) Y.m_range (pa_cons (pe_call G__law_draw (hr.mono (by decide)) (by rfl) Y.g__law_draw Y.F__law_draw.kp Y.b__law_draw .nil pass0 (pa_cons (pv 2) (pa_cons pe_int pa_nil))) pa_nil)) (pg_name (i := 4) sc_law.nd rfl (Or.inl rfl)) (pss_cons (ps_set (i := 6) sc_law.nd rfl (Or.inr rfl) (pe_ix ix_SEQ (pe_lst (pa_cons pe_str (pa_cons pe_str (pa_cons pe_str (pa_cons pe_str (pa_cons pe_str (pa_cons pe_str pa_nil))))))) (pe_call G__law_draw (hr.mono (by decide)) (by rfl) Y.g__law_draw Y.F__law_draw.kp Y.b__law_draw .nil pass0 (pa_cons (pv 2) (pa_cons pe_int pa_nil))) (fun _ _ => rfl)))
        (pss_one (ps_dput (hu_of hr) (pv 3) (pv 6) (pe_tup (pa_cons (pe_call G__law_changes (hr.mono (by decide)) (by rfl) Y.g__law_changes Y.F__law_changes.kp Y.b__law_changes .nil pass0 (pa_cons (pv 2) (pa_cons pe_int (pa_cons pe_int pa_nil)))) (pa_cons (pe_call G__law_guards (hr.mono (by decide)) (by rfl) Y.g__law_guards Y.F__law_guards.kp Y.b__law_guards .nil pass0 (pa_cons (pv 2) (pa_cons pe_int pa_nil))) pa_nil))) (by rfl)))))
      (pss_cons (ps_asg (pe_tup (pa_cons (pe_call G__law_changes (hr.mono (by decide)) (by rfl) Y.g__law_changes Y.F__law_changes.kp Y.b__law_changes .nil pass0 (pa_cons (pv 2) (pa_cons pe_int (pa_cons pe_int pa_nil)))) (pa_cons (pe_call G__law_guards (hr.mono (by decide)) (by rfl) Y.g__law_guards Y.F__law_guards.kp Y.b__law_guards .nil pass0 (pa_cons (pv 2) (pa_cons pe_int pa_nil))) pa_nil))) (pg_tup rfl (pgs_cons (pg_name (i := 9) sc_law.nd rfl (Or.inl rfl)) (pgs_cons (pg_name (i := 10) sc_law.nd rfl (Or.inr rfl)) pgs_nil))))
      (pss_cons (ps_setLc (i := 5) (own := [("_law_key_here", 14), ("_law_value", 15)]) (by rfl) sc_law.nd rfl rfl (sw_true rfl rfl rfl (by decide +kernel)) (pi_tup (pv 9)) (blkOk_by (own := [("_law_key_here", 14), ("_law_value", 15)]) (N := ["_law_script", "_law_cell", "_law_well_here", "_law_holds", "_law_k", "_law_keys", "_law_name", "_law_passed", "_law_bad", "_law_changes_here", "_law_guards_here", "_law_held", "_law_changing", "_law_own", "_law_key_here", "_law_value"]) (sc := defScope s_law) (by decide +kernel)) (fun _ _ _ _ _ => (pg_tup rfl (pgs_cons (pg_name (i := 14) sc_law.nd rfl (Or.inl rfl)) (pgs_cons (pg_name (i := 15) sc_law.nd rfl (Or.inl rfl)) pgs_nil)))) (fun _ _ _ _ _ => pts_nil) (fun _ _ _ _ _ => (pv 14)))
      (pss_cons (ps_par (i := 11) (j := 12) (by rfl) sc_law.nd rfl rfl (by decide) rfl rfl (pa_cons (pe_lst pa_nil) (pa_cons (pe_lst pa_nil) pa_nil)) (by rfl))
      (pss_cons (ps_for PassesOwn.never rfl (pi_list (pe_callB (call_SORTD rfl) (by rfl) Y.m_sorted (by decide +kernel) (pa_cons (pv 3) pa_nil))) (pg_name (i := 6) sc_law.nd rfl (Or.inr rfl)) (pss_cons (ps_set (i := 13) sc_law.nd rfl (Or.inr rfl) (pe_lc (own := [("_law_key_here", 14), ("_law_value", 15)]) (by rfl) sc_law.nd (pi_tup (pe_ix ix_SEQ (pe_dget (hu_of hr) (pv 3) (pv 6) (fun _ _ => rfl)) pe_int (fun _ _ => rfl))) (blkOk_by (own := [("_law_key_here", 14), ("_law_value", 15)]) (N := ["_law_script", "_law_cell", "_law_well_here", "_law_holds", "_law_k", "_law_keys", "_law_name", "_law_passed", "_law_bad", "_law_changes_here", "_law_guards_here", "_law_held", "_law_changing", "_law_own", "_law_key_here", "_law_value"]) (sc := defScope s_law) (by decide +kernel)) (fun _ _ _ _ _ => (pg_tup rfl (pgs_cons (pg_name (i := 14) sc_law.nd rfl (Or.inl rfl)) (pgs_cons (pg_name (i := 15) sc_law.nd rfl (Or.inl rfl)) pgs_nil)))) (fun _ _ _ _ _ => pts_nil) (fun _ _ _ _ _ => (pv 14))))
        (Evl.pss_cut (ps_if (pt_cmpR (op_NE (hu_64 hr)) (pe_lc (own := [("_law_key_here", 14)]) (by rfl) sc_law.nd (pi_list (pv 5)) (blkOk_by (own := [("_law_key_here", 14)]) (N := ["_law_script", "_law_cell", "_law_well_here", "_law_holds", "_law_k", "_law_keys", "_law_name", "_law_passed", "_law_bad", "_law_changes_here", "_law_guards_here", "_law_held", "_law_changing", "_law_own", "_law_key_here", "_law_value"]) (sc := defScope s_law) (by decide +kernel)) (fun _ _ _ _ _ => (pg_name (i := 14) sc_law.nd rfl (Or.inl rfl))) (fun _ _ _ _ _ => (pts_one (PW.pt (pw_or (pt_cmpR op_IN (pv 14) (pv 13) (by with_unfolding_all rfl)) (pw_or1 (pt_tru (pe_call G__law_lies (hr.mono (by decide)) (by rfl) Y.g__law_lies Y.F__law_lies.kp Y.b__law_lies .nil pass0 (pa_cons (pv 14) (pa_cons (pe_ix ix_SEQ (pe_dget (hu_of hr) (pv 3) (pv 6) (fun _ _ => rfl)) pe_int (fun _ _ => rfl)) pa_nil))) (by intro _; rfl))))))) (fun _ _ _ _ _ => (pv 14))) (pe_lst pa_nil) (nomark _)) (pss_one (ps_expr (pe_bm PySem.F.plainAttrs_list PySem.F.slot_list_append PySem.F.type_list_append mt_append (pv 11) (pa_cons (pv 6) pa_nil)))) pss_nil)
        (pss_one (ps_if (pt_cmpR (op_NE (hu_64 hr)) (pe_lc (own := [("_law_key_here", 14)]) (by rfl) sc_law.nd (pi_list (pv 13)) (blkOk_by (own := [("_law_key_here", 14)]) (N := ["_law_script", "_law_cell", "_law_well_here", "_law_holds", "_law_k", "_law_keys", "_law_name", "_law_passed", "_law_bad", "_law_changes_here", "_law_guards_here", "_law_held", "_law_changing", "_law_own", "_law_key_here", "_law_value"]) (sc := defScope s_law) (by decide +kernel)) (fun _ _ _ _ _ => (pg_name (i := 14) sc_law.nd rfl (Or.inl rfl))) (fun _ _ _ _ _ => (pts_one (pt_tru (pe_call G__law_lies (hr.mono (by decide)) (by rfl) Y.g__law_lies Y.F__law_lies.kp Y.b__law_lies .nil pass0 (pa_cons (pv 14) (pa_cons (pv 10) pa_nil))) (by intro _; rfl)))) (fun _ _ _ _ _ => (pv 14))) (pe_lst pa_nil) (nomark _)) (pss_one (ps_expr (pe_bm PySem.F.plainAttrs_list PySem.F.slot_list_append PySem.F.type_list_append mt_append (pv 12) (pa_cons (pv 6) pa_nil)))) pss_nil)))))
      (pss_cons (ps_set (i := 7) sc_law.nd rfl (Or.inr rfl) pe_dnewK)
      (pss_cons (ps_for PassesOwn.never rfl (pi_list (pe_callBK (call_SORTDR rfl) (by rfl) Y.m_sorted (by decide +kernel) (pa_cons (pv 3) pa_nil) (pk_cons pe_bl pk_nil))) (pg_name (i := 6) sc_law.nd rfl (Or.inr rfl)) (pss_one (ps_dput (hu_of hr) (pv 7) (pv 6) (pe_dget (hu_of hr) (pv 3) (pv 6) (fun _ _ => rfl)) (by rfl))))
      (pss_cons (ps_if (pt_not (pt_tru (pe_call G__law_same (hr.mono (by decide)) (by rfl) Y.g__law_same Y.F__law_same.kp Y.b__law_same .nil pass0 (pa_cons (pe_callK0 G_held_names (hr.mono (by decide)) (by rfl) Y.g_held_names Y.F_held_names.kp Y.kb_held_names_0 passL (pk_cons (pv 9) (pk_cons (pv 7) pk_nil))) (pa_cons (pe_callTy call_TUPLE (by rfl) Y.m_tuple (by decide +kernel) (pa_cons (pv 11) pa_nil)) pa_nil))) (by intro _; rfl))) (pss_one (ps_ret pe_bl)) pss_nil)
      (pss_cons (ps_if (pt_not (pt_tru (pe_call G__law_same (hr.mono (by decide)) (by rfl) Y.g__law_same Y.F__law_same.kp Y.b__law_same .nil pass0 (pa_cons (pe_callK0 G_changing_names (hr.mono (by decide)) (by rfl) Y.g_changing_names Y.F_changing_names.kp Y.kb_changing_names_0 pass0 (pk_cons (pv 10) (pk_cons (pv 7) pk_nil))) (pa_cons (pe_callTy call_TUPLE (by rfl) Y.m_tuple (by decide +kernel) (pa_cons (pv 12) pa_nil)) pa_nil))) (by intro _; rfl))) (pss_one (ps_ret pe_bl)) pss_nil)
      (pss_cons (ps_set (i := 8) sc_law.nd rfl (Or.inl rfl) (pe_lst (pa_cons (pe_callTy call_LIST (by rfl) Y.m_list (by decide +kernel) (pa_cons (pv 9) pa_nil)) (pa_cons (pe_tup (pa_cons (pe_tup (pa_cons pe_str (pa_cons pe_str pa_nil))) (pa_cons (pe_tup (pa_cons pe_str (pa_cons pe_str pa_nil))) pa_nil))) (pa_cons (pe_tup (pa_cons (pe_tup (pa_cons pe_str (pa_cons pe_str pa_nil))) (pa_cons (pe_tup (pa_cons pe_str (pa_cons pe_non pa_nil))) pa_nil))) (pa_cons (pe_tup (pa_cons (pe_tup (pa_cons pe_str pa_nil)) pa_nil)) (pa_cons pe_non (pa_cons (pe_tup (pa_cons (pe_tup (pa_cons pe_str (pa_cons pe_int pa_nil))) pa_nil)) pa_nil))))))))
      (pss_cons (ps_if (pt_not (pt_tru (pe_call G__law_is_refused (hr.mono (by decide)) (by rfl) Y.g__law_is_refused Y.F__law_is_refused.kp Y.b__law_is_refused .nil pass0 (pa_cons (pv 7) (pa_cons (pe_ix ix_SEQ (pv 8) (pe_call G__law_draw (hr.mono (by decide)) (by rfl) Y.g__law_draw Y.F__law_draw.kp Y.b__law_draw .nil pass0 (pa_cons (pv 2) (pa_cons pe_int pa_nil))) (fun _ _ => rfl)) pa_nil))) (by intro _; rfl))) (pss_one (ps_ret pe_bl)) pss_nil)
      (pss_one (ps_if (PW.pt (pw_or (pt_cmpR (op_NE (hu_64 hr)) (pe_callB (call_SORTD rfl) (by rfl) Y.m_sorted (by decide +kernel) (pa_cons (pv 7) pa_nil)) (pe_callB (call_SORTD rfl) (by rfl) Y.m_sorted (by decide +kernel) (pa_cons (pv 3) pa_nil)) (nomark _)) (pw_or1 (pt_cmpR (op_NE (hu_64 hr)) (pe_lock (pe_lc (own := [("_law_name", 6)]) (by rfl) sc_law.nd (pi_keys (pv 3)) (blkOk_by (own := [("_law_name", 6)]) (N := ["_law_script", "_law_cell", "_law_well_here", "_law_holds", "_law_k", "_law_keys", "_law_name", "_law_passed", "_law_bad", "_law_changes_here", "_law_guards_here", "_law_held", "_law_changing", "_law_own", "_law_key_here", "_law_value"]) (sc := defScope s_law) (by decide +kernel)) (fun _ _ _ _ _ => (pg_name (i := 6) sc_law.nd rfl (Or.inl rfl))) (fun _ _ _ _ _ => (pts_one (pt_not (pt_tru (pe_call G__law_same (hr.mono (by decide)) (by rfl) Y.g__law_same Y.F__law_same.kp Y.b__law_same .nil pass0 (pa_cons (pe_dget (hu_of hr) (pv 7) (pv 6) (fun _ _ => rfl)) (pa_cons (pe_dget (hu_of hr) (pv 3) (pv 6) (fun _ _ => rfl)) pa_nil))) (by intro _; rfl))))) (fun _ _ _ _ _ => (pv 6)))) (pe_lst pa_nil) (nomark _))))) (pss_one (ps_ret pe_bl)) pss_nil))))))))))))))))
    (pss_one (ps_ret pe_bl)))
end
end My

set_option Elab.async false
set_option linter.all false
set_option maxRecDepth 100000
set_option maxHeartbeats 1000000
namespace My
open PySem PySem.Spec PyProof.Rows L2
local macro_rules | `(tactic| walk_at "len") => `(tactic| first | assumption | omega | decide | (simp only [List.length_append, List.length_take, List.length_drop, List.length_cons, List.length_nil, List.length_replicate]; omega))
local macro_rules | `(tactic| walk_at "side") => `(tactic| first | assumption | exact Nat.zero_le _ | decide | omega)
local macro_rules | `(tactic| walk_at "rd1") => `(tactic| first
  | with_reducible refine s_seq ?_
  | with_reducible refine x_gsub ?_
  | with_reducible refine s_asg ?_
  | ((with_reducible refine s_gn ?_); dsimp only [List.set])
  | ((with_reducible refine x_var (v := ?rdv) ?rdhv ?_); (case rdhv => rfl))
  | with_reducible refine x_c ?_
  | with_reducible refine x_op ?_
  | with_reducible refine x_cons ?_
  | with_reducible refine x_nil ?_
  | with_reducible refine x_cb ?_
  | with_reducible refine x_call ?_
  | with_reducible refine x_callS ?_
  | with_reducible refine x_revT ?_
  | with_reducible refine x_dget ?_
  | with_reducible refine x_din ?_
  | with_reducible refine x_dnotin ?_
  | with_reducible refine s_dput ?_
  | with_reducible refine x_dnew ?_
  | with_reducible refine s_try ?_
  | with_reducible refine s_raise ?_
  | with_reducible refine s_if ?_
  | with_reducible refine s_ret ?_
  | with_reducible refine s_retN ?_
  | with_reducible refine s_next ?_
  | with_reducible refine s_brk ?_
  | with_reducible refine s_cont ?_
  | with_reducible refine s_drop ?_
  | with_reducible refine s_par ?_
  | with_reducible refine s_par3 ?_
  | ((with_reducible refine s_p2 ?_); dsimp only [List.set])
  | ((with_reducible refine s_p3 ?_); dsimp only [List.set])
  | with_reducible refine f_r1 ?_
  | with_reducible refine f_r2 ?_
  | with_reducible refine f_l ?_
  | with_reducible refine f_t ?_
  | with_reducible refine f_s ?_
  | with_reducible refine c_r1 ?_
  | with_reducible refine c_r2 ?_
  | with_reducible refine c_l ?_
  | with_reducible refine c_t ?_
  | with_reducible refine c_s ?_
  | with_reducible refine x_tst ?_
  | with_reducible refine x_tru ?_
  | with_reducible refine x_truB ?_
  | with_reducible refine x_bl2 ?_
  | with_reducible refine x_int ?_
  | with_reducible refine x_str ?_
  | with_reducible refine x_not ?_
  | with_reducible refine x_and ?_
  | with_reducible refine x_or ?_
  | with_reducible refine x_andV ?_
  | with_reducible refine x_orV ?_
  | with_reducible refine x_notV ?_
  | with_reducible refine x_if ?_
  | with_reducible refine x_yes ?_
  | with_reducible refine x_un ?_
  | with_reducible refine x_tup ?_
  | with_reducible refine x_lst ?_
  | with_reducible refine x_callK ?_
  | with_reducible refine x_callK0 ?_
  | with_reducible refine x_bm ?_
  | with_reducible refine x_bm0 ?_
  | with_reducible refine x_tyS ?_
  | with_reducible refine x_sl ?_
  | with_reducible refine x_nopart ?_
  | with_reducible refine x_part ?_
  | with_reducible refine x_fmt0 ?_
  | with_reducible refine x_gc ?_
  | with_reducible refine x_gz ?_
  | with_reducible refine x_ckw ?_
  | with_reducible refine x_fmt ?_
  | with_reducible refine x_chain ?_
  | with_reducible refine a_ii ?_
  | ((with_reducible refine sl_to ?rda ?rdb ?_); (case rda => walk_at "len"); (case rdb => walk_at "len"))
  | ((with_reducible refine sl_from ?rda ?rdb ?_); (case rda => walk_at "len"); (case rdb => walk_at "len"))
  | ((with_reducible refine sl_mid ?rda ?rdb ?rdc ?_); (case rda => walk_at "len"); (case rdb => walk_at "len"); (case rdc => walk_at "len"))
  | ((with_reducible refine a_SS ?rda ?_); (case rda => walk_at "len"))
  | ((with_reducible refine ln_S ?rda ?_); (case rda => walk_at "len"))
  | with_reducible refine e_SS ?_
  | with_reducible refine ne_SS ?_
  | with_reducible refine s_ii ?_
  | ((with_reducible refine md_ii ?rdc ?_); (case rdc => first | decide | assumption | omega))
  | with_reducible refine n_i ?_
  | with_reducible refine e_ii ?_
  | with_reducible refine e_bb ?_
  | with_reducible refine ne_ii ?_
  | with_reducible refine ne_bb ?_
  | with_reducible refine lt_ii ?_
  | with_reducible refine lt_ss ?_
  | with_reducible refine le_ii ?_
  | with_reducible refine le_ss ?_
  | with_reducible refine gt_ii ?_
  | with_reducible refine gt_ss ?_
  | with_reducible refine ge_ii ?_
  | with_reducible refine e_ss ?_
  | with_reducible refine ne_ss ?_
  | with_reducible refine is_N ?_
  | with_reducible refine is_T ?_
  | with_reducible refine is_B ?_
  | with_reducible refine isn_N ?_
  | with_reducible refine isn_T ?_
  | with_reducible refine isn_B ?_
  | with_reducible refine in_s ?_
  | with_reducible refine nin_s ?_
  | with_reducible refine i_i ?_
  | with_reducible refine i_b ?_
  | with_reducible refine ab_i ?_
  | with_reducible refine mx_ii ?_
  | with_reducible refine mn_ii ?_
  | with_reducible refine ty_N ?_
  | with_reducible refine ty_B ?_
  | with_reducible refine ty_I ?_
  | with_reducible refine ty_S ?_
  | with_reducible refine ma_s ?_
  | with_reducible refine mp_s ?_
  | with_reducible refine mdg_s ?_
  | with_reducible refine mf_s ?_
  | with_reducible refine iteT ?_
  | with_reducible refine iteF ?_
  | with_reducible refine iteNt ?_
  | with_reducible refine iteNf ?_
  | with_reducible refine iteTd (by decide) ?_
  | with_reducible refine iteFd (by decide) ?_
  | with_reducible refine iteNd (by decide) ?_
  | with_reducible refine iteNdF (by decide) ?_
  | ((with_reducible refine iteFd ?rdn ?_); (case rdn => (intro rdz; cases rdz; done)))
  | ((with_reducible refine iteNdF ?rdn ?_); (case rdn => (intro rdz; cases rdz; done))))
local macro_rules | `(tactic| walk_at "rd") => `(tactic| (repeat walk_at "rd1"))
section
variable {P : Program} {w : World} {K : PySem.W.Frag} {mg : Str → Option Value} {base : Heap}
def isTxD : PyData → Bool
  | .str z => isT z.cps.toList
  | _ => false
def sp_is_text (K : PySem.W.Frag) : Sp := fun vs H Q _ => ∃ (x : V) (d : PyData), vs = [x] ∧ Dp K H x d ∧ Q (.bl (isTxD d)) H
theorem ok_is_text (Y : Fx K mg) : FnOk P w K mg base CX0 1 Y.a_is_text Y.fd_is_text ["value"] (sp_is_text K) := by
  refine Y.F_is_text.ok sc_is_text (fun vs H Q E h => ?_) (fun cdv A outer s H vs Q E hr h => ?_)
  · obtain ⟨x, d, rfl, _⟩ := h
    rfl
  · obtain ⟨x, d, rfl, hx, q⟩ := h
    refine ⟨_, b_is_text Y hr, ?_⟩
    show t_is_text K _ [some x] H
    unfold t_is_text
    walk_at "rd"
    refine ty_D hx ?_
    cases hx with
    | str z =>
      obtain ⟨l, rfl⟩ : ∃ l, z = S l := ⟨_, S_eta z⟩
      have q' : Q (.bl (isT l)) H := q
      walk_at "rd"
      refine iteTd rfl ?_
      walk_at "rd"
      rw [← is_text_eq l] at q'
      refine ite2' (fun e => ?_) (fun e => ?_)
      · walk_at "rd"
        rw [e] at q'
        exact q'
      · rw [e] at q'
        exact q'
    | non =>
      walk_at "rd"
      exact q
    | bl b =>
      walk_at "rd"
      refine iteFd (show ¬ (("bool" : String) = "str") by decide) ?_
      exact q
    | int i =>
      walk_at "rd"
      refine iteFd (show ¬ (("int" : String) = "str") by decide) ?_
      exact q
    | lst h _ =>
      walk_at "rd"
      refine iteFd (show ¬ (("list" : String) = "str") by decide) ?_
      exact q
    | tup h _ =>
      walk_at "rd"
      refine iteFd (show ¬ (("tuple" : String) = "str") by decide) ?_
      exact q
abbrev Ch := List Nat × Option (List Nat)
def vlD : Option (List Nat) → PyData
  | none => .none
  | some v => .str (S v)
def vlV : Option (List Nat) → V
  | none => .non
  | some v => .str (S v)
theorem dp_vl (H : Hp) (o : Option (List Nat)) : Dp K H (vlV o) (vlD o) := by
  cases o with
  | none => exact .non
  | some v => exact .str _
def chD (c : Ch) : PyData := .tuple [.str (S c.1), vlD c.2]
def chsD (cs : List Ch) : PyData := .tuple (cs.map chD)
/-- a list's changes, object by object -/
def ChV (H : Hp) (us : List V) (cs : List Ch) : Prop := us.length = cs.length ∧ ∀ (i : Nat) (c : Ch), cs[i]? = some c → ∃ t, us[i]? = some (.ref t) ∧ H t = some (.tup [.str (S c.1), vlV c.2])
theorem ChV.nil {H : Hp} : ChV H [] [] := ⟨rfl, fun i c h => by cases h⟩
theorem ChV.mono {H H' : Hp} {us : List V} {cs : List Ch} (e : Same H H') (h : ChV H us cs) : ChV H' us cs := ⟨h.1, fun i o hi => by
  obtain ⟨v, a, b⟩ := h.2 i o hi
  exact ⟨v, a, e _ _ b⟩⟩
theorem ChV.mut {H : Hp} {us xs : List V} {cs : List Ch} {D : Addr} {u : HO} (hD : H D = some (.lst xs)) (h : ChV H us cs) : ChV (upd H D u) us cs := ⟨h.1, fun i o hi => by
  obtain ⟨v, a, b⟩ := h.2 i o hi
  refine ⟨v, a, ?_⟩
  rw [upd_ne]
  · exact b
  · rintro rfl
    rw [hD] at b
    cases b⟩
theorem ChV.snoc {H : Hp} {us : List V} {cs : List Ch} {t : Addr} {c : Ch} (h : ChV H us cs) (hv : H t = some (.tup [.str (S c.1), vlV c.2])) : ChV H (us ++ [.ref t]) (cs ++ [c]) := by
  refine ⟨by rw [List.length_append, List.length_append, h.1]; rfl, fun i o' hi => ?_⟩
  by_cases hlt : i < cs.length
  · rw [List.getElem?_append_left hlt] at hi
    obtain ⟨v', a, b⟩ := h.2 i o' hi
    exact ⟨v', by rw [List.getElem?_append_left (by rw [h.1]; exact hlt)]; exact a, b⟩
  · rw [List.getElem?_append_right (by omega)] at hi
    have hi2 : i - cs.length < 1 := (List.getElem?_eq_some_iff.mp hi).1
    have hi3 : i = cs.length := by omega
    subst hi3
    rw [Nat.sub_self] at hi
    cases hi
    exact ⟨t, by rw [List.getElem?_append_right (by rw [h.1]; exact Nat.le_refl _), h.1, Nat.sub_self]; rfl, hv⟩
theorem ChV.dp {H : Hp} : ∀ {us : List V} {cs : List Ch}, ChV H us cs → DpAll K H us (cs.map chD)
  | [], [], _ => .nil
  | [], e :: es, h => by have := h.1; cases this
  | u :: us, [], h => by have := h.1; cases this
  | u :: us, e :: es, h => by
    obtain ⟨t, a, b⟩ := h.2 0 e rfl
    cases a
    exact .cons (.tup (tup_of b) (.cons (.str _) (.cons (dp_vl _ _) .nil))) (ChV.dp (us := us) (cs := es) ⟨Nat.succ.inj h.1, fun i o hi => h.2 (i + 1) o hi⟩)
abbrev Bd := Option (List Nat)
abbrev Pd := Bd × Bd
def pdD (c : Pd) : PyData := .tuple [vlD c.1, vlD c.2]
/-- a list's changes, object by object -/
def PdV (H : Hp) (us : List V) (cs : List Pd) : Prop := us.length = cs.length ∧ ∀ (i : Nat) (c : Pd), cs[i]? = some c → ∃ t, us[i]? = some (.ref t) ∧ H t = some (.tup [vlV c.1, vlV c.2])
theorem PdV.nil {H : Hp} : PdV H [] [] := ⟨rfl, fun i c h => by cases h⟩
theorem PdV.mono {H H' : Hp} {us : List V} {cs : List Pd} (e : Same H H') (h : PdV H us cs) : PdV H' us cs := ⟨h.1, fun i o hi => by
  obtain ⟨v, a, b⟩ := h.2 i o hi
  exact ⟨v, a, e _ _ b⟩⟩
theorem PdV.mut {H : Hp} {us xs : List V} {cs : List Pd} {D : Addr} {u : HO} (hD : H D = some (.lst xs)) (h : PdV H us cs) : PdV (upd H D u) us cs := ⟨h.1, fun i o hi => by
  obtain ⟨v, a, b⟩ := h.2 i o hi
  refine ⟨v, a, ?_⟩
  rw [upd_ne]
  · exact b
  · rintro rfl
    rw [hD] at b
    cases b⟩
theorem PdV.snoc {H : Hp} {us : List V} {cs : List Pd} {t : Addr} {c : Pd} (h : PdV H us cs) (hv : H t = some (.tup [vlV c.1, vlV c.2])) : PdV H (us ++ [.ref t]) (cs ++ [c]) := by
  refine ⟨by rw [List.length_append, List.length_append, h.1]; rfl, fun i o' hi => ?_⟩
  by_cases hlt : i < cs.length
  · rw [List.getElem?_append_left hlt] at hi
    obtain ⟨v', a, b⟩ := h.2 i o' hi
    exact ⟨v', by rw [List.getElem?_append_left (by rw [h.1]; exact hlt)]; exact a, b⟩
  · rw [List.getElem?_append_right (by omega)] at hi
    have hi2 : i - cs.length < 1 := (List.getElem?_eq_some_iff.mp hi).1
    have hi3 : i = cs.length := by omega
    subst hi3
    rw [Nat.sub_self] at hi
    cases hi
    exact ⟨t, by rw [List.getElem?_append_right (by rw [h.1]; exact Nat.le_refl _), h.1, Nat.sub_self]; rfl, hv⟩
theorem PdV.dp {H : Hp} : ∀ {us : List V} {cs : List Pd}, PdV H us cs → DpAll K H us (cs.map pdD)
  | [], [], _ => .nil
  | [], e :: es, h => by have := h.1; cases this
  | u :: us, [], h => by have := h.1; cases this
  | u :: us, e :: es, h => by
    obtain ⟨t, a, b⟩ := h.2 0 e rfl
    cases a
    exact .cons (.tup (tup_of b) (.cons (dp_vl _ _) (.cons (dp_vl _ _) .nil))) (PdV.dp (us := us) (cs := es) ⟨Nat.succ.inj h.1, fun i o hi => h.2 (i + 1) o hi⟩)
theorem dp_ch {H : Hp} {x : V} {c : Ch} (h : Dp K H x (chD c)) : ∃ p, x = .ref p ∧ SqT K H p [.str (S c.1), vlV c.2] := by
  obtain ⟨p, u, v, rfl, hp, hu, hv⟩ := dp_tup2 h
  have hu' := dp_str' hu
  subst hu'
  obtain ⟨k, o⟩ := c
  cases o with
  | none =>
    cases hv
    exact ⟨p, rfl, hp⟩
  | some v' =>
    have hv' := dp_str' (z := S v') hv
    subst hv'
    exact ⟨p, rfl, hp⟩
theorem dp_pd {H : Hp} {x : V} {c : Pd} (h : Dp K H x (pdD c)) : ∃ p, x = .ref p ∧ SqT K H p [vlV c.1, vlV c.2] := by
  obtain ⟨p, u, v, rfl, hp, hu, hv⟩ := dp_tup2 h
  have one : ∀ (o : Bd) (z : V), Dp K H z (vlD o) → z = vlV o := by
    intro o z hz
    cases o with
    | none => cases hz; rfl
    | some l => exact dp_str' (z := S l) hz
  rw [one _ _ hu, one _ _ hv] at hp
  exact ⟨p, rfl, hp⟩
theorem all_pd {H : Hp} {us : List V} {gs : List Pd} (h : DpAll K H us (gs.map pdD)) {i : Nat} {x : V} (hx : us[i]? = some x) : ∃ g, gs[i]? = some g ∧ Dp K H x (pdD g) := all_at h hx
def isChgD : PyData → Bool
  | .tuple [a, b] => isTxD a && (isNo b || isTxD b)
  | _ => false
def keyD : PyData → List Nat
  | .tuple (.str z :: _) => z.cps.toList
  | _ => []
def zipLt (ks : List (List Nat)) : List Bool := List.zipWith (fun a b => decide (a < b)) ks (ks.drop 1)
def ascL (ks : List (List Nat)) : Bool := (zipLt ks).all id
def isChsD : PyData → Bool
  | .tuple ds => ds.all isChgD && ascL (ds.map keyD)
  | _ => false
theorem zip_len (ks : List (List Nat)) : (zipLt ks).length = ks.length - 1 := by
  unfold zipLt
  rw [List.length_zipWith, List.length_drop]
  omega
theorem zip_at {ks : List (List Nat)} {i : Nat} {a b : List Nat} (h1 : ks[i]? = some a) (h2 : ks[i + 1]? = some b) : (zipLt ks)[i]? = some (decide (a < b)) := by
  unfold zipLt
  rw [List.getElem?_zipWith, h1, List.getElem?_drop, Nat.add_comm 1 i, h2]
def sp_is_change (K : PySem.W.Frag) : Sp := fun vs H Q _ => ∃ (x : V) (d : PyData), vs = [x] ∧ Dp K H x d ∧ Q (.bl (isChgD d)) H
theorem chg_len {ds : List PyData} (h : ds.length ≠ 2) : isChgD (.tuple ds) = false := by
  rcases ds with _ | ⟨a, _ | ⟨b, _ | ⟨c, r⟩⟩⟩ <;> first | rfl | exact absurd rfl h
theorem ok_is_change (Y : Fx K mg) : FnOk P w K mg base CX0 2 Y.a_is_change Y.fd_is_change ["value"] (sp_is_change K) := by
  refine Y.F_is_change.ok sc_is_change (fun vs H Q E h => ?_) (fun cdv A outer s H vs Q E hr h => ?_)
  · obtain ⟨x, d, rfl, _⟩ := h
    rfl
  · obtain ⟨x, d, rfl, hx, q⟩ := h
    refine ⟨_, b_is_change Y (ok_is_text Y) hr, ?_⟩
    show t_is_change K _ _ [some x] H
    unfold t_is_change
    walk_at "rd"
    refine ty_D hx ?_
    cases hx with
    | @tup a us ds hs ha =>
      have hlen := dpAll_len ha
      walk_at "rd"
      refine iteNd rfl ?_
      walk_at "rd"
      refine ln_t hs ?_
      walk_at "rd"
      rw [hlen]
      by_cases h2 : ds.length = 2
      · obtain ⟨a, b, rfl⟩ : ∃ a b, ds = [a, b] := by
          rcases ds with _ | ⟨a, _ | ⟨b, _ | ⟨c, r⟩⟩⟩
          · cases h2
          · cases h2
          · exact ⟨a, b, rfl⟩
          · simp at h2
        cases ha with
        | cons h1 ha =>
          cases ha with
          | cons h3 ha =>
            cases ha
            rename_i u v
            have q' : Q (.bl (isTxD a && (isNo b || isTxD b))) H := q
            refine iteNd rfl ?_
            walk_at "rd"
            refine ix_T hs (by rfl) ?_
            walk_at "rd"
            refine ⟨u, a, rfl, h1, ?_⟩
            walk_at "rd"
            refine ite2' (fun e => ?_) (fun e => ?_)
            · rw [e, Bool.true_and] at q'
              walk_at "rd"
              refine ix_T hs (by rfl) ?_
              walk_at "rd"
              rw [non_d h3]
              refine ite2' (fun e2 => ?_) (fun e2 => ?_)
              · rw [e2] at q'
                exact q'
              · rw [e2, Bool.false_or] at q'
                walk_at "rd"
                refine ix_T hs (by rfl) ?_
                walk_at "rd"
                exact ⟨v, b, rfl, h3, q'⟩
            · rw [e, Bool.false_and] at q'
              exact q'
      · refine iteNdF (by omega) ?_
        walk_at "rd"
        rw [chg_len h2] at q
        exact q
    | non =>
      walk_at "rd"
      exact q
    | bl b =>
      walk_at "rd"
      refine iteNdF (show ¬ (("bool" : String) = "tuple") by decide) ?_
      walk_at "rd"
      exact q
    | int i =>
      walk_at "rd"
      refine iteNdF (show ¬ (("int" : String) = "tuple") by decide) ?_
      walk_at "rd"
      exact q
    | str z =>
      walk_at "rd"
      refine iteNdF (show ¬ (("str" : String) = "tuple") by decide) ?_
      walk_at "rd"
      exact q
    | lst h _ =>
      walk_at "rd"
      refine iteNdF (show ¬ (("list" : String) = "tuple") by decide) ?_
      walk_at "rd"
      exact q
theorem lcZ_mk {H : Hp} {Q : VK} {σ : L2.St} {g : TG} {t : TT} {te : TE} {ws : List Nat} {a b : Addr} {xs ys : List V} (hx : SqL K H a xs) (hy : SqL K H b ys) (Pv : Addr → Nat → Hp → Prop) (n : Nat) (hn : n = min xs.length ys.length)
    (h0 : ∀ D, H D = none → Pv D 0 (upd H D (.lst []))) (hl : ∀ D i H', H D = none → Pv D i H' → SqL K H' a xs ∧ SqL K H' b ys)
    (hs : ∀ D i x y T H', H D = none → xs[i]? = some x → ys[i]? = some y → Pv D i H' → H' T = none → g (.ref T) (wipe σ ws) (upd H' T (.tup [x, y])) fun σ2 H2 => wipe σ2 ws = wipe σ ws ∧ t σ2 H2 fun b H3 => if b = true then te σ2 H3 fun y H4 => ∃ acc, H4 D = some (.lst acc) ∧ acc.length < sizeLine ∧ Pv D (i + 1) (upd H4 D (.lst (acc ++ [y]))) else Pv D (i + 1) H3)
    (hd : ∀ D H', H D = none → Pv D n H' → Q (.ref D) H') : ∃ a' b' xs ys, [V.ref a, .ref b] = [.ref a', .ref b'] ∧ SqL K H a' xs ∧ SqL K H b' ys ∧ LcW (Itz K a' b') g t te ws σ Q H := by
  refine ⟨a, b, xs, ys, rfl, hx, hy, fun D hD => ⟨fun i m H' => m = n - i ∧ i ≤ n ∧ Pv D i H', ⟨n, by simp, Nat.zero_le _, h0 D hD⟩, ?_⟩⟩
  rintro i m H' ⟨rfl, hi, p⟩
  obtain ⟨sx, sy⟩ := hl D i H' hD p
  by_cases hlt : i < n
  · refine .inr ⟨⟨xs, ys, _, _, sx, sy, List.getElem?_eq_getElem (by omega), List.getElem?_eq_getElem (by omega)⟩, Pv D (i + 1), fun H2 p' => ⟨n - (i + 1), by omega, rfl, hlt, p'⟩, fun x H2 y => ?_⟩
    obtain ⟨T, x', y', rfl, hT, rfl, e1, e2⟩ := y
    exact hs D i x' y' T H' hD (e1 _ sx) (e2 _ sy) p hT
  · have e : i = n := by omega
    subst e
    exact .inl ⟨⟨xs, ys, sx, sy, by omega⟩, hd D H' hD p⟩
theorem c_z {σ : L2.St} {H : Hp} {Q : VK} {tr : TA} {g : TG} {t : TT} {te : TE} {ws : List Nat} (h : tr σ H fun vs H1 => ∃ a b xs ys, vs = [.ref a, .ref b] ∧ SqL K H1 a xs ∧ SqL K H1 b ys ∧ LcW (Itz K a b) g t te ws σ Q H1) : tLc (iZip K tr) g t te ws σ H Q := h
def sp_is_changes (K : PySem.W.Frag) : Sp := fun vs H Q _ => ∃ (x : V) (d : PyData), vs = [x] ∧ Dp K H x d ∧ (∀ ds, d = .tuple ds → ds.length ≤ 100000) ∧ ∀ H', Same H H' → Q (.bl (isChsD d)) H'
theorem bv_snoc {α : Type} {ds : List α} {f : α → Bool} {i : Nat} {d : α} (h : ds[i]? = some d) : ((ds.take (i + 1)).map fun d => V.bl (f d)) = ((ds.take i).map fun d => V.bl (f d)) ++ [V.bl (f d)] := by
  rw [take_snoc h, List.map_append]
  rfl
theorem ok_is_changes (Y : Fx K mg) : FnOk P w K mg base CX0 3 Y.a_is_changes Y.fd_is_changes ["value"] (sp_is_changes K) := by
  refine Y.F_is_changes.ok sc_is_changes (fun vs H Q E h => ?_) (fun cdv A outer s H vs Q E hr h => ?_)
  · obtain ⟨x, d, rfl, _⟩ := h
    rfl
  · obtain ⟨x, d, rfl, hx, hz, q⟩ := h
    refine ⟨_, b_is_changes Y (ok_is_change Y) hr, ?_⟩
    show t_is_changes K _ _ [some x, none, none, none, none, none, none] H
    unfold t_is_changes
    walk_at "rd"
    refine ty_D hx ?_
    cases hx with
    | @tup p us ds hs ha =>
      have hlen := dpAll_len ha
      have hds := hz ds rfl
      have q' : ∀ H', Same H H' → Q (.bl (ds.all isChgD && ascL (ds.map keyD))) H' := q
      walk_at "rd"
      refine iteNd rfl ?_
      walk_at "rd"
      refine lcT_mk hs (fun D i H' => Same H H' ∧ H' D = some (.lst ((ds.take i).map fun d => V.bl (isChgD d)))) (fun D hD => ⟨same_upd hD, upd_same⟩) (fun D i H' hD _ hP => same_sqt hP.1 hs) (fun D i x H' hD hxi hP => ?_) (fun D H' hD hP => ?_)
      · obtain ⟨hS, hH⟩ := hP
        have hi : i < ds.length := by rw [← hlen]; exact (List.getElem?_eq_some_iff.mp hxi).1
        obtain ⟨v, hv, hd⟩ := dpAll_get ha hi
        rw [hxi] at hv
        cases hv
        refine ⟨rfl, ?_⟩
        walk_at "rd"
        refine ⟨x, ds[i], rfl, dp_mono hS _ _ hd, ?_⟩
        refine ⟨_, hH, Nat.lt_of_le_of_lt (show _ ≤ 100000 by rw [List.length_map, List.length_take]; omega) (by decide), same_mut hS hD, ?_⟩
        rw [upd_same, bv_snoc (List.getElem?_eq_getElem hi)]
      · obtain ⟨hS, hH⟩ := hP
        rw [hlen, List.take_of_length_le (Nat.le_refl _), show (ds.map fun d => V.bl (isChgD d)) = (ds.map isChgD).map V.bl by rw [List.map_map]; rfl] at hH
        walk_at "rd"
        refine al_b (lst_of hH) ?_
        have ea : (ds.map isChgD).all id = ds.all isChgD := by rw [List.all_map]; rfl
        rw [ea]
        walk_at "rd"
        cases hall : ds.all isChgD with
        | false =>
          rw [hall, Bool.false_and] at q'
          walk_at "rd"
          exact q' _ hS
        | true =>
          rw [hall, Bool.true_and] at q'
          refine iteNt ?_
          walk_at "rd"
          refine lcT_mk (same_sqt hS hs) (fun D2 i H2 => Same H' H2 ∧ H2 D2 = some (.lst (tv ((ds.take i).map keyD)))) (fun D2 hD2 => ⟨same_upd hD2, upd_same⟩) (fun D2 i H2 hD2 _ hP => same_sqt (hS.trans hP.1) hs) (fun D2 i x H2 hD2 hxi hP => ?_) (fun D2 H2 hD2 hP => ?_)
          · obtain ⟨hS2, hH2⟩ := hP
            have hi : i < ds.length := by rw [← hlen]; exact (List.getElem?_eq_some_iff.mp hxi).1
            obtain ⟨v, hv, hd⟩ := dpAll_get ha hi
            rw [hxi] at hv
            cases hv
            have hci : isChgD ds[i] = true := List.all_eq_true.mp hall _ (List.getElem_mem hi)
            have hdi := List.getElem?_eq_getElem hi
            generalize ds[i] = dd at hci hd hdi
            obtain ⟨z, b, rfl⟩ : ∃ z b, dd = .tuple [.str z, b] := by
              cases dd with
              | tuple es =>
                rcases es with _ | ⟨a, _ | ⟨b, _ | ⟨c, r⟩⟩⟩
                · cases hci
                · cases hci
                · have hci' : (isTxD a && (isNo b || isTxD b)) = true := hci
                  rw [Bool.and_eq_true] at hci'
                  cases a with
                  | str z => exact ⟨z, b, rfl⟩
                  | _ => cases hci'.1
                · cases hci
              | _ => cases hci
            cases hd with
            | tup hs2 ha2 =>
              cases ha2 with
              | cons k1 ha2 =>
                cases ha2 with
                | cons k2 ha2 =>
                  cases ha2
                  cases k1
                  refine gt_T (same_sqt (hS.trans hS2) hs2) rfl ?_
                  refine x_gc ?_
                  refine s_gn ?_
                  refine x_gc ?_
                  refine s_gn ?_
                  refine x_gz ?_
                  refine ⟨rfl, ?_⟩
                  show tYes [_, none, none, some (.str z), some _, none, none] H2 _
                  walk_at "rd"
                  refine ⟨_, hH2, Nat.lt_of_le_of_lt (show _ ≤ 100000 by rw [tv_len, List.length_map, List.length_take]; omega) (by decide), same_mut hS2 hD2, ?_⟩
                  rw [upd_same, take_snoc hdi, List.map_append, tv_app]
                  show some (HO.lst (_ ++ [V.str z])) = some (HO.lst (_ ++ [V.str (S z.cps.toList)]))
                  rw [← S_eta z]
          · obtain ⟨hS2, hH2⟩ := hP
            rw [hlen, List.take_of_length_le (Nat.le_refl _)] at hH2
            generalize hks : ds.map keyD = ks at hH2 q'
            have hkl : ks.length ≤ 100000 := by rw [← hks, List.length_map]; exact hds
            have hS02 := hS.trans hS2
            walk_at "rd"
            refine c_z ?_
            walk_at "rd"
            refine sl_L (lst_of hH2) fun p3 hp3 => ?_
            rw [show (some (1 : Int)) = some ((1 : Nat) : Int) from rfl, cutV_from]
            have hS3 := same_upd hp3 (o := .lst ((tv ks).drop 1))
            refine x_nil ?_
            refine lcZ_mk (lst_of (hS3 _ _ hH2)) (lst_of upd_same) (fun D3 i H3 => Same (upd H2 p3 (.lst ((tv ks).drop 1))) H3 ∧ H3 D3 = some (.lst (((zipLt ks).take i).map V.bl))) (ks.length - 1) (by rw [List.length_drop, tv_len]; omega) (fun D3 hD3 => ⟨same_upd hD3, upd_same⟩) (fun D3 i H3 hD3 hP => ⟨lst_of (hP.1 _ _ (hS3 _ _ hH2)), lst_of (hP.1 _ _ upd_same)⟩) (fun D3 i x y T H3 hD3 hxi hyi hP hT => ?_) (fun D3 H3 hD3 hP => ?_)
            · obtain ⟨hS4, hH4⟩ := hP
              unfold tv at hxi hyi
              rw [List.getElem?_drop, List.getElem?_map] at hyi
              rw [List.getElem?_map] at hxi
              rw [Nat.add_comm] at hyi
              cases hk1 : ks[i]? with
              | none => rw [hk1] at hxi; cases hxi
              | some k1 =>
                cases hk2 : ks[i + 1]? with
                | none => rw [hk2] at hyi; cases hyi
                | some k2 =>
                  rw [hk1] at hxi
                  rw [hk2] at hyi
                  cases hxi
                  cases hyi
                  refine gt_T (tup_of upd_same) rfl ?_
                  refine x_gc ?_
                  refine s_gn ?_
                  refine x_gc ?_
                  refine s_gn ?_
                  refine x_gz ?_
                  refine ⟨rfl, ?_⟩
                  show tYes [_, none, _, none, none, some (.str (S k1)), some (.str (S k2))] _ _
                  walk_at "rd"
                  have hne : D3 ≠ T := fun z => by rw [← z, hH4] at hT; cases hT
                  refine ⟨_, (by rw [upd_ne hne]; exact hH4), Nat.lt_of_le_of_lt (show _ ≤ 100000 by rw [List.length_map, List.length_take, zip_len]; omega) (by decide), ?_, ?_⟩
                  · exact same_mut (same_new hS4 hT) hD3
                  · rw [upd_same, take_snoc (zip_at hk1 hk2), List.map_append]
                    rfl
            · obtain ⟨hS4, hH4⟩ := hP
              rw [← zip_len, List.take_of_length_le (Nat.le_refl _)] at hH4
              walk_at "rd"
              refine al_b (lst_of hH4) ?_
              exact q' _ ((hS02.trans hS3).trans hS4)
    | non =>
      walk_at "rd"
      exact q H (Same.refl H)
    | bl b =>
      walk_at "rd"
      refine iteNdF (show ¬ (("bool" : String) = "tuple") by decide) ?_
      walk_at "rd"
      exact q H (Same.refl H)
    | int i =>
      walk_at "rd"
      refine iteNdF (show ¬ (("int" : String) = "tuple") by decide) ?_
      walk_at "rd"
      exact q H (Same.refl H)
    | str z =>
      walk_at "rd"
      refine iteNdF (show ¬ (("str" : String) = "tuple") by decide) ?_
      walk_at "rd"
      exact q H (Same.refl H)
    | lst h _ =>
      walk_at "rd"
      refine iteNdF (show ¬ (("list" : String) = "tuple") by decide) ?_
      walk_at "rd"
      exact q H (Same.refl H)
end
end My

set_option Elab.async false
set_option linter.all false
set_option maxRecDepth 100000
set_option maxHeartbeats 1000000
namespace My
open PySem PySem.Spec PyProof.Rows L2
local macro_rules | `(tactic| walk_at "len") => `(tactic| first | assumption | omega | decide | (simp only [List.length_append, List.length_take, List.length_drop, List.length_cons, List.length_nil, List.length_replicate]; omega))
local macro_rules | `(tactic| walk_at "side") => `(tactic| first | assumption | exact Nat.zero_le _ | decide | omega)
local macro_rules | `(tactic| walk_at "rd1") => `(tactic| first
  | with_reducible refine s_seq ?_
  | with_reducible refine x_gsub ?_
  | with_reducible refine s_asg ?_
  | ((with_reducible refine s_gn ?_); dsimp only [List.set])
  | ((with_reducible refine x_var (v := ?rdv) ?rdhv ?_); (case rdhv => rfl))
  | with_reducible refine x_c ?_
  | with_reducible refine x_op ?_
  | with_reducible refine x_cons ?_
  | with_reducible refine x_nil ?_
  | with_reducible refine x_cb ?_
  | with_reducible refine x_call ?_
  | with_reducible refine x_callS ?_
  | with_reducible refine x_revT ?_
  | with_reducible refine x_dget ?_
  | with_reducible refine x_din ?_
  | with_reducible refine x_dnotin ?_
  | with_reducible refine s_dput ?_
  | with_reducible refine x_dnew ?_
  | with_reducible refine s_try ?_
  | with_reducible refine s_raise ?_
  | with_reducible refine s_if ?_
  | with_reducible refine s_ret ?_
  | with_reducible refine s_retN ?_
  | with_reducible refine s_next ?_
  | with_reducible refine s_brk ?_
  | with_reducible refine s_cont ?_
  | with_reducible refine s_drop ?_
  | with_reducible refine s_par ?_
  | with_reducible refine s_par3 ?_
  | ((with_reducible refine s_p2 ?_); dsimp only [List.set])
  | ((with_reducible refine s_p3 ?_); dsimp only [List.set])
  | with_reducible refine f_r1 ?_
  | with_reducible refine f_r2 ?_
  | with_reducible refine f_l ?_
  | with_reducible refine f_t ?_
  | with_reducible refine f_s ?_
  | with_reducible refine c_r1 ?_
  | with_reducible refine c_r2 ?_
  | with_reducible refine c_l ?_
  | with_reducible refine c_t ?_
  | with_reducible refine c_s ?_
  | with_reducible refine x_tst ?_
  | with_reducible refine x_tru ?_
  | with_reducible refine x_truB ?_
  | with_reducible refine x_bl2 ?_
  | with_reducible refine x_int ?_
  | with_reducible refine x_str ?_
  | with_reducible refine x_not ?_
  | with_reducible refine x_and ?_
  | with_reducible refine x_or ?_
  | with_reducible refine x_andV ?_
  | with_reducible refine x_orV ?_
  | with_reducible refine x_notV ?_
  | with_reducible refine x_if ?_
  | with_reducible refine x_yes ?_
  | with_reducible refine x_un ?_
  | with_reducible refine x_tup ?_
  | with_reducible refine x_lst ?_
  | with_reducible refine x_callK ?_
  | with_reducible refine x_callK0 ?_
  | with_reducible refine x_bm ?_
  | with_reducible refine x_bm0 ?_
  | with_reducible refine x_tyS ?_
  | with_reducible refine x_sl ?_
  | with_reducible refine x_nopart ?_
  | with_reducible refine x_part ?_
  | with_reducible refine x_fmt0 ?_
  | with_reducible refine x_gc ?_
  | with_reducible refine x_gz ?_
  | with_reducible refine x_ckw ?_
  | with_reducible refine x_fmt ?_
  | with_reducible refine x_chain ?_
  | with_reducible refine a_ii ?_
  | ((with_reducible refine sl_to ?rda ?rdb ?_); (case rda => walk_at "len"); (case rdb => walk_at "len"))
  | ((with_reducible refine sl_from ?rda ?rdb ?_); (case rda => walk_at "len"); (case rdb => walk_at "len"))
  | ((with_reducible refine sl_mid ?rda ?rdb ?rdc ?_); (case rda => walk_at "len"); (case rdb => walk_at "len"); (case rdc => walk_at "len"))
  | ((with_reducible refine a_SS ?rda ?_); (case rda => walk_at "len"))
  | ((with_reducible refine ln_S ?rda ?_); (case rda => walk_at "len"))
  | with_reducible refine e_SS ?_
  | with_reducible refine ne_SS ?_
  | with_reducible refine s_ii ?_
  | ((with_reducible refine md_ii ?rdc ?_); (case rdc => first | decide | assumption | omega))
  | with_reducible refine n_i ?_
  | with_reducible refine e_ii ?_
  | with_reducible refine e_bb ?_
  | with_reducible refine ne_ii ?_
  | with_reducible refine ne_bb ?_
  | with_reducible refine lt_ii ?_
  | with_reducible refine lt_ss ?_
  | with_reducible refine le_ii ?_
  | with_reducible refine le_ss ?_
  | with_reducible refine gt_ii ?_
  | with_reducible refine gt_ss ?_
  | with_reducible refine ge_ii ?_
  | with_reducible refine e_ss ?_
  | with_reducible refine ne_ss ?_
  | with_reducible refine is_N ?_
  | with_reducible refine is_T ?_
  | with_reducible refine is_B ?_
  | with_reducible refine isn_N ?_
  | with_reducible refine isn_T ?_
  | with_reducible refine isn_B ?_
  | with_reducible refine in_s ?_
  | with_reducible refine nin_s ?_
  | with_reducible refine i_i ?_
  | with_reducible refine i_b ?_
  | with_reducible refine ab_i ?_
  | with_reducible refine mx_ii ?_
  | with_reducible refine mn_ii ?_
  | with_reducible refine ty_N ?_
  | with_reducible refine ty_B ?_
  | with_reducible refine ty_I ?_
  | with_reducible refine ty_S ?_
  | with_reducible refine ma_s ?_
  | with_reducible refine mp_s ?_
  | with_reducible refine mdg_s ?_
  | with_reducible refine mf_s ?_
  | with_reducible refine iteT ?_
  | with_reducible refine iteF ?_
  | with_reducible refine iteNt ?_
  | with_reducible refine iteNf ?_
  | with_reducible refine iteTd (by decide) ?_
  | with_reducible refine iteFd (by decide) ?_
  | with_reducible refine iteNd (by decide) ?_
  | with_reducible refine iteNdF (by decide) ?_
  | ((with_reducible refine iteFd ?rdn ?_); (case rdn => (intro rdz; cases rdz; done)))
  | ((with_reducible refine iteNdF ?rdn ?_); (case rdn => (intro rdz; cases rdz; done))))
local macro_rules | `(tactic| walk_at "rd") => `(tactic| (repeat walk_at "rd1"))
section
variable {P : Program} {w : World} {K : PySem.W.Frag} {mg : Str → Option Value} {base : Heap}
def isB (c : Bool) : PyData → Bool | .bool b => decide (b = c) | _ => false
theorem bl_d {H : Hp} {x : V} {d : PyData} (c : Bool) (h : Dp K H x d) : decide (x = .bl c) = isB c d := by
  cases h with
  | bl b =>
    show decide (V.bl b = V.bl c) = decide (b = c)
    cases b <;> cases c <;> rfl
  | _ => rfl
def spS (F : PyData → Prop) (K : PySem.W.Frag) : Sp := fun vs H Q _ => ∃ (x y : V) (d : PyData), vs = [x, y] ∧ Dp K H x d ∧ Dp K H y d ∧ F d ∧ ∀ H', Same H H' → Q (.bl true) H'
theorem same_step (Y : Fx K mg) {n : Nat} (F : PyData → Prop) (G : FnOk P w K mg base CX0 n Y.a__law_same Y.fd__law_same ["_law_found", "_law_due"] (spS F K)) :
    FnOk P w K mg base CX0 (n + 1) Y.a__law_same Y.fd__law_same ["_law_found", "_law_due"] (spS (Up F) K) := by
  refine Y.F__law_same.ok sc__law_same (fun vs H Q E h => ?_) (fun cdv A outer s H vs Q E hr h => ?_)
  · obtain ⟨x, y, d, rfl, _⟩ := h
    rfl
  · obtain ⟨x, y, d, rfl, hx, hy, hF, q⟩ := h
    refine ⟨_, b__law_same Y G (Nat.zero_le _) hr, ?_⟩
    show t__law_same K _ _ [some x, some y, none] H
    unfold t__law_same
    have X : (isTu d = true ∨ isLi d = true) → ∀ N : L2.St → Hp → Prop, (tSeq (tIfS (tOr (tTest (tOp (rNE K) (tCB (rISI K) (tCons (tVar 0) (tCons (tC (.ty "tuple")) tNil))) (tCB (rISI K) (tCons (tVar 1) (tCons (tC (.ty "tuple")) tNil))))) (tTest (tOp (rNE K) (tCB (rISI K) (tCons (tVar 0) (tCons (tC (.ty "list")) tNil))) (tCB (rISI K) (tCons (tVar 1) (tCons (tC (.ty "list")) tNil)))))) (tRet (tC (.bl false))) tNext)
      (tRet (tAndV (tOp (rEQ K) (tCB (rLEN K) (tCons (tVar 0) tNil)) (tCB (rLEN K) (tCons (tVar 1) tNil))) (tOp (rEQ K) (tLc (iRng1 (tCons (tCB (rLEN K) (tCons (tVar 1) tNil)) tNil)) (gName 2) (tNot (tTru1 K (tCall (spS F K) [] E0 (tCons (tOp (rIX K) (tVar 0) (tVar 2)) (tCons (tOp (rIX K) (tVar 1) (tVar 2)) tNil))))) (tVar 2) [2]) (tLst tNil))))) { nx := N, rt := Q } [some x, some y, none] H := by
      intro hd N
      have seq : ∀ (ds : List PyData) (px py : Addr) (vx vy : List V), ds.length ≤ 100000 → (∀ e ∈ ds, F e) → SqX K H px vx → SqX K H py vy → DpAll K H vx ds → DpAll K H vy ds → x = .ref px → y = .ref py →
          tRet (tAndV (tOp (rEQ K) (tCB (rLEN K) (tCons (tVar 0) tNil)) (tCB (rLEN K) (tCons (tVar 1) tNil))) (tOp (rEQ K) (tLc (iRng1 (tCons (tCB (rLEN K) (tCons (tVar 1) tNil)) tNil)) (gName 2) (tNot (tTru1 K (tCall (spS F K) [] E0 (tCons (tOp (rIX K) (tVar 0) (tVar 2)) (tCons (tOp (rIX K) (tVar 1) (tVar 2)) tNil))))) (tVar 2) [2]) (tLst tNil)))
            { nx := N, rt := Q } [some x, some y, none] H := by
        rintro ds px py vx vy hl hFe hsx hsy hax hay rfl rfl
        have lx := dpAll_len hax
        have ly := dpAll_len hay
        walk_at "rd"
        refine ln_X hsx ?_
        walk_at "rd"
        refine ln_X hsy ?_
        rw [lx, ly]
        walk_at "rd"
        refine iteTd rfl ?_
        walk_at "rd"
        refine ln_X hsy ?_
        walk_at "rd"
        rw [ly]
        refine lcR1_mk (by omega) (by omega) (fun D i H' => Same H H' ∧ H' D = some (.lst [])) (fun D hD => ⟨same_upd hD, upd_same⟩) (fun D i H' hD hi hp => ?_) (fun D H' hD hp => ?_)
        · obtain ⟨hs, hd⟩ := hp
          rw [Int.toNat_natCast] at hi
          obtain ⟨v1, e1, d1⟩ := dpAll_get hax hi
          obtain ⟨v2, e2, d2⟩ := dpAll_get hay hi
          refine ⟨rfl, ?_⟩
          walk_at "rd"
          refine ix_X (hsx.mono hs) (atI_nat e1) ?_
          walk_at "rd"
          refine ix_X (hsy.mono hs) (atI_nat e2) ?_
          walk_at "rd"
          refine ⟨v1, v2, ds[i], rfl, dp_mono hs _ _ d1, dp_mono hs _ _ d2, hFe _ (List.getElem_mem hi), fun H4 hS4 => ?_⟩
          walk_at "rd"
          exact ⟨hs.trans hS4, hS4 _ _ hd⟩
        · obtain ⟨hs, hd⟩ := hp
          walk_at "rd"
          refine ⟨Nat.zero_le _, fun p2 hp2 => ?_⟩
          refine e_d (.lst (lst_of (same_upd hp2 _ _ hd)) .nil) (.lst (lst_of upd_same) .nil) (by decide) (by decide) ?_
          exact q _ (same_new hs hp2)
      walk_at "rd"
      refine isi_d hx (kit_tu hx) ?_
      walk_at "rd"
      refine isi_d hy (kit_tu hy) ?_
      walk_at "rd"
      rw [decide_eq_true (show isTu d = isTu d from rfl)]
      walk_at "rd"
      refine isi_d hx (kit_li hx) ?_
      walk_at "rd"
      refine isi_d hy (kit_li hy) ?_
      walk_at "rd"
      rw [decide_eq_true (show isLi d = isLi d from rfl)]
      refine iteNt ?_
      refine s_next ?_
      cases hx with
      | lst hs ha =>
        cases hy with
        | lst hs' ha' => exact seq _ _ _ _ _ hF.1 hF.2 (.inl hs) (.inl hs') ha ha' rfl rfl
      | tup hs ha =>
        cases hy with
        | tup hs' ha' => exact seq _ _ _ _ _ hF.1 hF.2 (.inr hs) (.inr hs') ha ha' rfl rfl
      | non => rcases hd with z | z <;> cases z
      | bl b => rcases hd with z | z <;> cases z
      | int i => rcases hd with z | z <;> cases z
      | str z => rcases hd with z | z <;> cases z
    walk_at "rd"
    rw [non_d hy]
    refine ite2' (fun e => ?_) (fun e => ?_)
    · walk_at "rd"
      rw [non_d hx, e]
      exact q H (Same.refl H)
    · walk_at "rd"
      rw [bl_d true hy]
      refine ite2' (fun e1 => ?_) (fun e1 => ?_)
      · obtain rfl : d = .bool true := by
          cases d with
          | bool b => cases b; (exact absurd e1 (by decide)); rfl
          | _ => cases e1
        cases hy
        cases hx
        walk_at "rd"
        exact q H (Same.refl H)
      · walk_at "rd"
        rw [bl_d false hy]
        refine ite2' (fun e2 => ?_) (fun e2 => ?_)
        · obtain rfl : d = .bool false := by
            cases d with
            | bool b => cases b; rfl; exact absurd e2 (by decide)
            | _ => cases e2
          cases hy
          cases hx
          walk_at "rd"
          exact q H (Same.refl H)
        · walk_at "rd"
          refine isi_d hy (kit_st hy) ?_
          walk_at "rd"
          refine ite2' (fun e4 => ?_) (fun e4 => ?_)
          · have hsh : SeqAt.shaped d = true := by
              cases d <;> first | exact hF | cases e4
            walk_at "rd"
            refine isi_d hx (kit_st hx) ?_
            rw [e4]
            walk_at "rd"
            refine e_d hx hy hsh hsh ?_
            rw [eqv_same hsh]
            exact q H (Same.refl H)
          · walk_at "rd"
            refine isi_d hy (kit_tu hy) ?_
            walk_at "rd"
            refine ite2' (fun e5 => ?_) (fun e5 => ?_)
            · exact X (.inl e5) _
            · walk_at "rd"
              refine isi_d hy (kit_li hy) ?_
              walk_at "rd"
              refine ite2' (fun e6 => ?_) (fun e6 => ?_)
              · exact X (.inr e6) _
              · obtain ⟨i, rfl⟩ : ∃ i, d = .int i := by
                  cases hx with
                  | int i => exact ⟨i, rfl⟩
                  | non => cases e
                  | bl b => cases b; (exact absurd e2 (by decide)); exact absurd e1 (by decide)
                  | str z => cases e4
                  | tup _ _ => cases e5
                  | lst _ _ => cases e6
                have hsh : SeqAt.shaped (.int i) = true := hF
                walk_at "rd"
                refine isi_d hx (kit_in hx) ?_
                walk_at "rd"
                cases hx
                cases hy
                walk_at "rd"
                rw [show isIn (.int i) = true from rfl]
                walk_at "rd"
                rw [decide_eq_true rfl]
                exact q H (Same.refl H)
theorem ok__law_same (Y : Fx K mg) : ∀ n : Nat, FnOk P w K mg base CX0 (n + 1) Y.a__law_same Y.fd__law_same ["_law_found", "_law_due"] (spS (Fine n) K)
  | 0 => same_step Y (fun _ => False) ⟨fun vs H Q E h => by obtain ⟨x, y, d, rfl, _⟩ := h; rfl, fun A outer s H args us vs Q E hr he hb hv hs => by obtain ⟨x, y, d, rfl, _, _, z, _⟩ := hs; exact z.elim⟩
  | n + 1 => same_step Y (Fine n) (ok__law_same Y n)
end
end My

set_option Elab.async false
set_option linter.all false
set_option maxRecDepth 100000
set_option maxHeartbeats 1000000
namespace My
open PySem PySem.Spec PyProof.Rows L2
local macro_rules | `(tactic| walk_at "len") => `(tactic| first | assumption | omega | decide | (simp only [List.length_append, List.length_take, List.length_drop, List.length_cons, List.length_nil, List.length_replicate]; omega))
local macro_rules | `(tactic| walk_at "side") => `(tactic| first | assumption | exact Nat.zero_le _ | decide | omega)
local macro_rules | `(tactic| walk_at "rd1") => `(tactic| first
  | with_reducible refine s_seq ?_
  | with_reducible refine x_gsub ?_
  | with_reducible refine s_asg ?_
  | ((with_reducible refine s_gn ?_); dsimp only [List.set])
  | ((with_reducible refine x_var (v := ?rdv) ?rdhv ?_); (case rdhv => rfl))
  | with_reducible refine x_c ?_
  | with_reducible refine x_op ?_
  | with_reducible refine x_cons ?_
  | with_reducible refine x_nil ?_
  | with_reducible refine x_cb ?_
  | with_reducible refine x_call ?_
  | with_reducible refine x_callS ?_
  | with_reducible refine x_revT ?_
  | with_reducible refine x_dget ?_
  | with_reducible refine x_din ?_
  | with_reducible refine x_dnotin ?_
  | with_reducible refine s_dput ?_
  | with_reducible refine x_dnew ?_
  | with_reducible refine s_try ?_
  | with_reducible refine s_raise ?_
  | with_reducible refine s_if ?_
  | with_reducible refine s_ret ?_
  | with_reducible refine s_retN ?_
  | with_reducible refine s_next ?_
  | with_reducible refine s_brk ?_
  | with_reducible refine s_cont ?_
  | with_reducible refine s_drop ?_
  | with_reducible refine s_par ?_
  | with_reducible refine s_par3 ?_
  | ((with_reducible refine s_p2 ?_); dsimp only [List.set])
  | ((with_reducible refine s_p3 ?_); dsimp only [List.set])
  | with_reducible refine f_r1 ?_
  | with_reducible refine f_r2 ?_
  | with_reducible refine f_l ?_
  | with_reducible refine f_t ?_
  | with_reducible refine f_s ?_
  | with_reducible refine c_r1 ?_
  | with_reducible refine c_r2 ?_
  | with_reducible refine c_l ?_
  | with_reducible refine c_t ?_
  | with_reducible refine c_s ?_
  | with_reducible refine x_tst ?_
  | with_reducible refine x_tru ?_
  | with_reducible refine x_truB ?_
  | with_reducible refine x_bl2 ?_
  | with_reducible refine x_int ?_
  | with_reducible refine x_str ?_
  | with_reducible refine x_not ?_
  | with_reducible refine x_and ?_
  | with_reducible refine x_or ?_
  | with_reducible refine x_andV ?_
  | with_reducible refine x_orV ?_
  | with_reducible refine x_notV ?_
  | with_reducible refine x_if ?_
  | with_reducible refine x_yes ?_
  | with_reducible refine x_un ?_
  | with_reducible refine x_tup ?_
  | with_reducible refine x_lst ?_
  | with_reducible refine x_callK ?_
  | with_reducible refine x_callK0 ?_
  | with_reducible refine x_bm ?_
  | with_reducible refine x_bm0 ?_
  | with_reducible refine x_tyS ?_
  | with_reducible refine x_sl ?_
  | with_reducible refine x_nopart ?_
  | with_reducible refine x_part ?_
  | with_reducible refine x_fmt0 ?_
  | with_reducible refine x_gc ?_
  | with_reducible refine x_gz ?_
  | with_reducible refine x_ckw ?_
  | with_reducible refine x_fmt ?_
  | with_reducible refine x_chain ?_
  | with_reducible refine a_ii ?_
  | ((with_reducible refine sl_to ?rda ?rdb ?_); (case rda => walk_at "len"); (case rdb => walk_at "len"))
  | ((with_reducible refine sl_from ?rda ?rdb ?_); (case rda => walk_at "len"); (case rdb => walk_at "len"))
  | ((with_reducible refine sl_mid ?rda ?rdb ?rdc ?_); (case rda => walk_at "len"); (case rdb => walk_at "len"); (case rdc => walk_at "len"))
  | ((with_reducible refine a_SS ?rda ?_); (case rda => walk_at "len"))
  | ((with_reducible refine ln_S ?rda ?_); (case rda => walk_at "len"))
  | with_reducible refine e_SS ?_
  | with_reducible refine ne_SS ?_
  | with_reducible refine s_ii ?_
  | ((with_reducible refine md_ii ?rdc ?_); (case rdc => first | decide | assumption | omega))
  | with_reducible refine n_i ?_
  | with_reducible refine e_ii ?_
  | with_reducible refine e_bb ?_
  | with_reducible refine ne_ii ?_
  | with_reducible refine ne_bb ?_
  | with_reducible refine lt_ii ?_
  | with_reducible refine lt_ss ?_
  | with_reducible refine le_ii ?_
  | with_reducible refine le_ss ?_
  | with_reducible refine gt_ii ?_
  | with_reducible refine gt_ss ?_
  | with_reducible refine ge_ii ?_
  | with_reducible refine e_ss ?_
  | with_reducible refine ne_ss ?_
  | with_reducible refine is_N ?_
  | with_reducible refine is_T ?_
  | with_reducible refine is_B ?_
  | with_reducible refine isn_N ?_
  | with_reducible refine isn_T ?_
  | with_reducible refine isn_B ?_
  | with_reducible refine in_s ?_
  | with_reducible refine nin_s ?_
  | with_reducible refine i_i ?_
  | with_reducible refine i_b ?_
  | with_reducible refine ab_i ?_
  | with_reducible refine mx_ii ?_
  | with_reducible refine mn_ii ?_
  | with_reducible refine ty_N ?_
  | with_reducible refine ty_B ?_
  | with_reducible refine ty_I ?_
  | with_reducible refine ty_S ?_
  | with_reducible refine ma_s ?_
  | with_reducible refine mp_s ?_
  | with_reducible refine mdg_s ?_
  | with_reducible refine mf_s ?_
  | with_reducible refine iteT ?_
  | with_reducible refine iteF ?_
  | with_reducible refine iteNt ?_
  | with_reducible refine iteNf ?_
  | with_reducible refine iteTd (by decide) ?_
  | with_reducible refine iteFd (by decide) ?_
  | with_reducible refine iteNd (by decide) ?_
  | with_reducible refine iteNdF (by decide) ?_
  | ((with_reducible refine iteFd ?rdn ?_); (case rdn => (intro rdz; cases rdz; done)))
  | ((with_reducible refine iteNdF ?rdn ?_); (case rdn => (intro rdz; cases rdz; done))))
local macro_rules | `(tactic| walk_at "rd") => `(tactic| (repeat walk_at "rd1"))
section
variable {P : Program} {w : World} {K : PySem.W.Frag} {mg : Str → Option Value} {base : Heap}
/-! a jar of digits -/
def JarAt (H : Hp) (j : Addr) : Prop := ∃ a b t : Int, H j = some (.lst [.int a, .int b, .int t]) ∧ 0 ≤ a ∧ 0 ≤ b ∧ b < 2 ^ 32
theorem JarAt.new {H : Hp} {j p : Addr} {o : HO} (h : JarAt H j) (hp : H p = none) : JarAt (upd H p o) j := by
  obtain ⟨a, b, t, h1, h2⟩ := h
  exact ⟨a, b, t, by rw [upd_ne (ne_of_none h1 hp)]; exact h1, h2⟩
theorem JarAt.same {H H' : Hp} {j : Addr} (h : JarAt H j) (e : Same H H') : JarAt H' j := by
  obtain ⟨a, b, t, h1, h2⟩ := h
  exact ⟨a, b, t, e _ _ h1, h2⟩
theorem JarAt.off {H : Hp} {j p : Addr} (h : JarAt H j) (hp : H p = none) : p ≠ j := by
  obtain ⟨a, b, t, h1, _⟩ := h
  exact ne_new h1 hp
theorem JarAt.keep {H : Hp} {j p : Addr} {o : HO} (h : JarAt H j) (h1 : p ≠ j) : JarAt (upd H p o) j := by
  obtain ⟨a, b, t, e1, h3⟩ := h
  exact ⟨a, b, t, by rw [upd_ne (Ne.symm h1)]; exact e1, h3⟩
abbrev Fr (j : Addr) (H H' : Hp) : Prop := Frm j j H H'
theorem Fr.cut {j D : Addr} {R H H' : Hp} {o : HO} (hF : Fr j R H') (hR : Fr j R H) (hD : H D = none) : Fr j R (upd H' D o) := by
  intro x u e1 e2 e3
  have e4 := hF x u e1 e2 e3
  have e5 : x ≠ D := by
    rintro rfl
    have e6 := hR x u e1 e2 e3
    rw [hD] at e6
    cases e6
  rw [upd_ne e5]
  exact e4
def sp__law_well (K : PySem.W.Frag) : Sp := fun vs H Q _ => ∃ i : Int, vs = [.int i] ∧ ∀ j H', H j = none → JarAt H' j → Same H H' → Q (.ref j) H'
theorem ok__law_well (Y : Fx K mg) : FnOk P w K mg base CX0 1 Y.a__law_well Y.fd__law_well ["_law_cell"] (sp__law_well K) := by
  refine Y.F__law_well.ok sc__law_well (fun vs H Q E h => ?_) (fun cdv A outer st H vs Q E hr h => ?_)
  · obtain ⟨i, rfl, _⟩ := h
    rfl
  · obtain ⟨i, rfl, q⟩ := h
    refine ⟨_, b__law_well Y hr, ?_⟩
    show t__law_well K _ [some (.int i), none] H
    unfold t__law_well
    walk_at "rd"
    refine pw_ii ⟨by decide, by decide, by decide⟩ ?_
    walk_at "rd"
    refine m_ii (.inl (.inr (by decide))) ?_
    walk_at "rd"
    refine ⟨by show 3 ≤ sizeLine; decide, fun p hp => ?_⟩
    exact q p _ hp ⟨_, _, _, upd_same, by split <;> omega, Int.emod_nonneg _ (by decide), Int.lt_trans (Int.emod_lt_of_pos _ (by decide)) (by decide)⟩ (same_upd hp)
def sp__law_draw (K : PySem.W.Frag) : Sp := fun vs H Q _ => ∃ (j : Addr) (n : Int), vs = [.ref j, .int n] ∧ JarAt H j ∧ 0 < n ∧ n < 2 ^ 40 ∧ ∀ r H', 0 ≤ r → r < n → JarAt H' j → Fr j H H' → Q (.int r) H'
theorem ok__law_draw (Y : Fx K mg) : FnOk P w K mg base CX0 1 Y.a__law_draw Y.fd__law_draw ["_law_well_here", "_law_many"] (sp__law_draw K) := by
  refine Y.F__law_draw.ok sc__law_draw (fun vs H Q E h => ?_) (fun cdv A outer st H vs Q E hr h => ?_)
  · obtain ⟨j, n, rfl, _⟩ := h
    rfl
  · obtain ⟨j, n, rfl, ⟨a, b, t, hj, ha, hb0, hb1⟩, hn0, hn1, q⟩ := h
    refine ⟨_, b__law_draw Y hr, ?_⟩
    show t__law_draw K _ [some (.ref j), some (.int n), none] H
    unfold t__law_draw
    walk_at "rd"
    refine ix_L (lst_of hj) (by rfl) ?_
    walk_at "rd"
    refine ix_L (lst_of hj) (by rfl) ?_
    walk_at "rd"
    refine st_L hj (by decide) (by show (2 : Int) < 3; decide) ?_
    show tSeq _ _ _ [some (.ref j), some (.int n), some (.int a)] (upd H j (.lst [.int a, .int b, .int (t + 1)]))
    have hj2 : upd H j (.lst [.int a, .int b, .int (t + 1)]) j = some (.lst [.int a, .int b, .int (t + 1)]) := upd_same
    have hF : Fr j H (upd H j (.lst [.int a, .int b, .int (t + 1)])) := (Frm.refl H).updS
    generalize upd H j (.lst [.int a, .int b, .int (t + 1)]) = H2 at hj2 hF ⊢
    walk_at "rd"
    refine ix_L (lst_of hj2) (by rfl) ?_
    walk_at "rd"
    refine m_ii (.inl (.inr (by decide))) ?_
    walk_at "rd"
    refine ix_L (lst_of hj2) (by rfl) ?_
    walk_at "rd"
    refine m_ii (.inl (.inr (by decide))) ?_
    walk_at "rd"
    refine st_L hj2 (by decide) (by show (1 : Int) < 3; decide) ?_
    have e0 : 0 ≤ (b * 16807 + (t + 1) * 127 + 3) % 2147483489 := Int.emod_nonneg _ (by decide)
    have e1 : (b * 16807 + (t + 1) * 127 + 3) % 2147483489 < 2147483489 := Int.emod_lt_of_pos _ (by decide)
    show tSeq _ _ _ [some (.ref j), some (.int n), some (.int a)] (upd H2 j (.lst [.int a, .int ((b * 16807 + (t + 1) * 127 + 3) % 2147483489), .int (t + 1)]))
    have hj3 : upd H2 j (.lst [.int a, .int ((b * 16807 + (t + 1) * 127 + 3) % 2147483489), .int (t + 1)]) j = some (.lst [.int a, .int ((b * 16807 + (t + 1) * 127 + 3) % 2147483489), .int (t + 1)]) := upd_same
    have hF3 : Fr j H (upd H2 j (.lst [.int a, .int ((b * 16807 + (t + 1) * 127 + 3) % 2147483489), .int (t + 1)])) := hF.updS
    generalize upd H2 j (.lst [.int a, .int ((b * 16807 + (t + 1) * 127 + 3) % 2147483489), .int (t + 1)]) = H3 at hj3 hF3 ⊢
    generalize (b * 16807 + (t + 1) * 127 + 3) % 2147483489 = b2 at e0 e1 hj3
    walk_at "rd"
    refine ite2' (fun e => ?_) (fun e => ?_)
    · walk_at "rd"
      refine fd_ii ⟨hn0, log_40 hn0 hn1⟩ ?_
      walk_at "rd"
      refine st_L hj3 (by decide) (by show (0 : Int) < 3; decide) ?_
      walk_at "rd"
      exact q _ _ (Int.emod_nonneg _ (by omega)) (Int.emod_lt_of_pos _ hn0) ⟨_, b2, _, upd_same, Int.ediv_nonneg ha (by omega), e0, by omega⟩ hF3.updS
    · walk_at "rd"
      refine ix_L (lst_of hj3) (by rfl) ?_
      walk_at "rd"
      refine ix_L (lst_of hj3) (by rfl) ?_
      walk_at "rd"
      refine fd_ii ⟨by decide, by decide⟩ ?_
      walk_at "rd"
      refine m_ii (.inl (.inl ⟨by omega, by omega⟩)) ?_
      walk_at "rd"
      refine fd_ii ⟨by decide, by decide⟩ ?_
      walk_at "rd"
      exact q _ H3 (Int.emod_nonneg _ (by omega)) (Int.emod_lt_of_pos _ hn0) ⟨a, b2, _, hj3, ha, e0, by omega⟩ hF3
end
end My

set_option Elab.async false
set_option linter.all false
set_option maxRecDepth 100000
set_option maxHeartbeats 1000000
namespace My
open PySem PySem.Spec PyProof.Rows L2
local macro_rules | `(tactic| walk_at "len") => `(tactic| first | assumption | omega | decide | (simp only [List.length_append, List.length_take, List.length_drop, List.length_cons, List.length_nil, List.length_replicate]; omega))
local macro_rules | `(tactic| walk_at "side") => `(tactic| first | assumption | exact Nat.zero_le _ | decide | omega)
local macro_rules | `(tactic| walk_at "rd1") => `(tactic| first
  | with_reducible refine s_seq ?_
  | with_reducible refine x_gsub ?_
  | with_reducible refine s_asg ?_
  | ((with_reducible refine s_gn ?_); dsimp only [List.set])
  | ((with_reducible refine x_var (v := ?rdv) ?rdhv ?_); (case rdhv => rfl))
  | with_reducible refine x_c ?_
  | with_reducible refine x_op ?_
  | with_reducible refine x_cons ?_
  | with_reducible refine x_nil ?_
  | with_reducible refine x_cb ?_
  | with_reducible refine x_call ?_
  | with_reducible refine x_callS ?_
  | with_reducible refine x_revT ?_
  | with_reducible refine x_dget ?_
  | with_reducible refine x_din ?_
  | with_reducible refine x_dnotin ?_
  | with_reducible refine s_dput ?_
  | with_reducible refine x_dnew ?_
  | with_reducible refine s_try ?_
  | with_reducible refine s_raise ?_
  | with_reducible refine s_if ?_
  | with_reducible refine s_ret ?_
  | with_reducible refine s_retN ?_
  | with_reducible refine s_next ?_
  | with_reducible refine s_brk ?_
  | with_reducible refine s_cont ?_
  | with_reducible refine s_drop ?_
  | with_reducible refine s_par ?_
  | with_reducible refine s_par3 ?_
  | ((with_reducible refine s_p2 ?_); dsimp only [List.set])
  | ((with_reducible refine s_p3 ?_); dsimp only [List.set])
  | with_reducible refine f_r1 ?_
  | with_reducible refine f_r2 ?_
  | with_reducible refine f_l ?_
  | with_reducible refine f_t ?_
  | with_reducible refine f_s ?_
  | with_reducible refine c_r1 ?_
  | with_reducible refine c_r2 ?_
  | with_reducible refine c_l ?_
  | with_reducible refine c_t ?_
  | with_reducible refine c_s ?_
  | with_reducible refine x_tst ?_
  | with_reducible refine x_tru ?_
  | with_reducible refine x_truB ?_
  | with_reducible refine x_bl2 ?_
  | with_reducible refine x_int ?_
  | with_reducible refine x_str ?_
  | with_reducible refine x_not ?_
  | with_reducible refine x_and ?_
  | with_reducible refine x_or ?_
  | with_reducible refine x_andV ?_
  | with_reducible refine x_orV ?_
  | with_reducible refine x_notV ?_
  | with_reducible refine x_if ?_
  | with_reducible refine x_yes ?_
  | with_reducible refine x_un ?_
  | with_reducible refine x_tup ?_
  | with_reducible refine x_lst ?_
  | with_reducible refine x_callK ?_
  | with_reducible refine x_callK0 ?_
  | with_reducible refine x_bm ?_
  | with_reducible refine x_bm0 ?_
  | with_reducible refine x_tyS ?_
  | with_reducible refine x_sl ?_
  | with_reducible refine x_nopart ?_
  | with_reducible refine x_part ?_
  | with_reducible refine x_fmt0 ?_
  | with_reducible refine x_gc ?_
  | with_reducible refine x_gz ?_
  | with_reducible refine x_ckw ?_
  | with_reducible refine x_fmt ?_
  | with_reducible refine x_chain ?_
  | with_reducible refine a_ii ?_
  | ((with_reducible refine sl_to ?rda ?rdb ?_); (case rda => walk_at "len"); (case rdb => walk_at "len"))
  | ((with_reducible refine sl_from ?rda ?rdb ?_); (case rda => walk_at "len"); (case rdb => walk_at "len"))
  | ((with_reducible refine sl_mid ?rda ?rdb ?rdc ?_); (case rda => walk_at "len"); (case rdb => walk_at "len"); (case rdc => walk_at "len"))
  | ((with_reducible refine a_SS ?rda ?_); (case rda => walk_at "len"))
  | ((with_reducible refine ln_S ?rda ?_); (case rda => walk_at "len"))
  | with_reducible refine e_SS ?_
  | with_reducible refine ne_SS ?_
  | with_reducible refine s_ii ?_
  | ((with_reducible refine md_ii ?rdc ?_); (case rdc => first | decide | assumption | omega))
  | with_reducible refine n_i ?_
  | with_reducible refine e_ii ?_
  | with_reducible refine e_bb ?_
  | with_reducible refine ne_ii ?_
  | with_reducible refine ne_bb ?_
  | with_reducible refine lt_ii ?_
  | with_reducible refine lt_ss ?_
  | with_reducible refine le_ii ?_
  | with_reducible refine le_ss ?_
  | with_reducible refine gt_ii ?_
  | with_reducible refine gt_ss ?_
  | with_reducible refine ge_ii ?_
  | with_reducible refine e_ss ?_
  | with_reducible refine ne_ss ?_
  | with_reducible refine is_N ?_
  | with_reducible refine is_T ?_
  | with_reducible refine is_B ?_
  | with_reducible refine isn_N ?_
  | with_reducible refine isn_T ?_
  | with_reducible refine isn_B ?_
  | with_reducible refine in_s ?_
  | with_reducible refine nin_s ?_
  | with_reducible refine i_i ?_
  | with_reducible refine i_b ?_
  | with_reducible refine ab_i ?_
  | with_reducible refine mx_ii ?_
  | with_reducible refine mn_ii ?_
  | with_reducible refine ty_N ?_
  | with_reducible refine ty_B ?_
  | with_reducible refine ty_I ?_
  | with_reducible refine ty_S ?_
  | with_reducible refine ma_s ?_
  | with_reducible refine mp_s ?_
  | with_reducible refine mdg_s ?_
  | with_reducible refine mf_s ?_
  | with_reducible refine iteT ?_
  | with_reducible refine iteF ?_
  | with_reducible refine iteNt ?_
  | with_reducible refine iteNf ?_
  | with_reducible refine iteTd (by decide) ?_
  | with_reducible refine iteFd (by decide) ?_
  | with_reducible refine iteNd (by decide) ?_
  | with_reducible refine iteNdF (by decide) ?_
  | ((with_reducible refine iteFd ?rdn ?_); (case rdn => (intro rdz; cases rdz; done)))
  | ((with_reducible refine iteNdF ?rdn ?_); (case rdn => (intro rdz; cases rdz; done))))
local macro_rules | `(tactic| walk_at "rd") => `(tactic| (repeat walk_at "rd1"))
section
variable {P : Program} {w : World} {K : PySem.W.Frag} {mg : Str → Option Value} {base : Heap}
theorem tri : ∀ {a b : List Nat}, ¬ b < a → a ≠ b → a < b
  | [], [], _, h2 => absurd rfl h2
  | [], _ :: _, _, _ => List.nil_lt_cons ..
  | _ :: _, [], h1, _ => absurd (List.nil_lt_cons ..) h1
  | x :: a, y :: b, h1, h2 => by
    rw [List.cons_lt_cons_iff] at h1 ⊢
    by_cases hxy : x = y
    · subst hxy
      exact .inr ⟨rfl, tri (fun h => h1 (.inr ⟨rfl, h⟩)) (fun h => h2 (by rw [h]))⟩
    · exact .inl (by have : ¬ y < x := fun h => h1 (.inl h); omega)
theorem asc_of : ∀ (a : List Nat) (r : List (List Nat)), (a :: r).Nodup → risingS (S a) (r.map S) = true → ascL (a :: r) = true
  | a, [], _, _ => rfl
  | a, b :: r, hn, h => by
    have h' : (!ltCps b a && risingS (S b) (r.map S)) = true := h
    rw [Bool.and_eq_true, ltCps_eq] at h'
    obtain ⟨h1, h2⟩ := h'
    rw [List.nodup_cons] at hn
    have h3 : ¬ b < a := by
      intro z
      rw [decide_eq_true z] at h1
      cases h1
    have h4 : a < b := tri h3 (fun e => hn.1 (by rw [e]; exact List.mem_cons_self ..))
    show (decide (a < b) && ascL (b :: r)) = true
    rw [decide_eq_true h4, asc_of b r hn.2 h2]
    rfl
theorem asc_all {ks : List (List Nat)} (hn : ks.Nodup) (h : sortedS (ks.map S) = true) : ascL ks = true := by
  cases ks with
  | nil => rfl
  | cons a r => exact asc_of a r hn h
/-! a dictionary of rows -/
def TxC (c : Ch) : Prop := (isT c.1 = true ∧ c.1.length ≤ 1000) ∧ ∀ v, c.2 = some v → isT v = true ∧ v.length ≤ 1000
def kvD (c : Ch) : Key × V := (Sum.inr (S c.1), vlV c.2)
theorem kvD_eq (c : Ch) (k : List Nat) : ((kvD c).1 = (Sum.inr (S k) : Key)) = (c.1 = k) := by
  apply propext
  constructor
  · intro h
    exact S_inj (Sum.inr.inj h)
  · intro h
    show (Sum.inr (S c.1) : Key) = _
    rw [h]
def putL (cs : List Ch) (k : List Nat) (v : Option (List Nat)) : List Ch :=
  if cs.any (fun c => decide (c.1 = k)) then cs.map (fun c => if c.1 = k then (c.1, v) else c) else cs ++ [(k, v)]
theorem put_L (cs : List Ch) (k : List Nat) (v : Option (List Nat)) : putK (cs.map kvD) (Sum.inr (S k) : Key) (vlV v) = (putL cs k v).map kvD := by
  unfold putK putL
  have e : (cs.map kvD).any (fun kv => decide (kv.1 = (Sum.inr (S k) : Key))) = cs.any (fun c => decide (c.1 = k)) := by
    rw [List.any_map]
    congr 1
    funext c
    exact decide_eq_decide.mpr (by rw [kvD_eq])
  rw [e]
  by_cases h : cs.any (fun c => decide (c.1 = k)) = true
  · rw [if_pos h, if_pos h, List.map_map, List.map_map]
    congr 1
    funext c
    show (if (kvD c).1 = (Sum.inr (S k) : Key) then ((kvD c).1, vlV v) else kvD c) = kvD (if c.1 = k then (c.1, v) else c)
    by_cases hc : c.1 = k
    · rw [if_pos hc, if_pos (by rw [kvD_eq]; exact hc)]
      rfl
    · rw [if_neg hc, if_neg (by rw [kvD_eq]; exact hc)]
  · rw [if_neg h, if_neg h, List.map_append]
    rfl
def RwOk (cs : List Ch) : Prop := (cs.map (·.1)).Nodup ∧ ∀ c ∈ cs, TxC c
theorem RwOk.nil : RwOk [] := ⟨List.nodup_nil, fun _ h => by cases h⟩
theorem putL_len (cs : List Ch) (k : List Nat) (v : Option (List Nat)) : (putL cs k v).length ≤ cs.length + 1 := by
  unfold putL
  split
  · rw [List.length_map]; omega
  · rw [List.length_append]; exact Nat.le_refl _
theorem putL_ok {cs : List Ch} {k : List Nat} {v : Option (List Nat)} (h : RwOk cs) (hk : TxC (k, v)) : RwOk (putL cs k v) := by
  unfold putL
  by_cases ha : cs.any (fun c => decide (c.1 = k)) = true
  · rw [if_pos ha]
    refine ⟨?_, fun c hc => ?_⟩
    · rw [List.map_map]
      have e : ((fun c : Ch => c.1) ∘ fun c => if c.1 = k then (c.1, v) else c) = fun c : Ch => c.1 := by
        funext c
        show (if c.1 = k then (c.1, v) else c).1 = c.1
        by_cases hc : c.1 = k
        · rw [if_pos hc]
        · rw [if_neg hc]
      rw [e]
      exact h.1
    · obtain ⟨c0, h0, e⟩ := List.mem_map.mp hc
      by_cases hck : c0.1 = k
      · rw [if_pos hck] at e
        rw [← e, hck]
        exact hk
      · rw [if_neg hck] at e
        rw [← e]
        exact h.2 c0 h0
  · rw [if_neg ha]
    have hno : k ∉ cs.map (·.1) := by
      intro z
      obtain ⟨c, hc, e⟩ := List.mem_map.mp z
      exact ha (List.any_eq_true.mpr ⟨c, hc, decide_eq_true e⟩)
    refine ⟨?_, fun c hc => ?_⟩
    · rw [List.map_append]
      refine List.nodup_append.mpr ⟨h.1, by simp, fun a ha b hb => ?_⟩
      have : b = k := List.mem_singleton.mp hb
      rintro rfl
      exact hno (this ▸ ha)
    · rcases List.mem_append.mp hc with hc | hc
      · exact h.2 c hc
      · rw [List.mem_singleton.mp hc]
        exact hk
def valL (cs : List Ch) (k : List Nat) : Option (List Nat) := match cs.find? (fun c => decide (c.1 = k)) with
  | some c => c.2
  | none => none
theorem val_L {cs : List Ch} (h : RwOk cs) {k : List Nat} (hk : k ∈ cs.map (·.1)) : valV (cs.map kvD) (Sum.inr (S k) : Key) = some (vlV (valL cs k)) ∧ TxC (k, valL cs k) := by
  obtain ⟨c, hc, e⟩ := List.mem_map.mp hk
  unfold valV valL
  rw [List.find?_map]
  have e2 : ((fun kv : Key × V => decide (kv.1 = (Sum.inr (S k) : Key))) ∘ kvD) = fun c : Ch => decide (c.1 = k) := by
    funext c
    exact decide_eq_decide.mpr (by rw [kvD_eq])
  rw [e2]
  cases hf : cs.find? (fun c => decide (c.1 = k)) with
  | none =>
    have := List.find?_eq_none.mp hf c hc
    exact absurd (decide_eq_true e) this
  | some d =>
    have h1 : d ∈ cs := List.mem_of_find?_eq_some hf
    have h2' := List.find?_some hf
    have h2 : d.1 = k := of_decide_eq_true h2'
    refine ⟨rfl, ?_⟩
    have := h.2 d h1
    rw [← h2]
    exact this
def GoodC (cs : List Ch) : Prop := isChsD (chsD cs) = true ∧ ∀ c ∈ cs, TxC c
theorem isChg_of {c : Ch} (h : TxC c) : isChgD (chD c) = true := by
  obtain ⟨k, o⟩ := c
  obtain ⟨⟨h1, _⟩, h2⟩ := h
  cases o with
  | none =>
    show (isT k && (true || false)) = true
    rw [show isT k = true from h1]
    rfl
  | some v =>
    show (isT k && (false || isT v)) = true
    rw [show isT k = true from h1, show isT v = true from (h2 v rfl).1]
    rfl
theorem isChs_eq (cs : List Ch) : isChsD (chsD cs) = (cs.all (fun c => isChgD (chD c)) && ascL (cs.map (·.1))) := by
  show ((cs.map chD).all isChgD && ascL ((cs.map chD).map keyD)) = _
  rw [List.all_map, List.map_map]
  rfl
theorem good_of {cs : List Ch} (h1 : ascL (cs.map (·.1)) = true) (h2 : ∀ c ∈ cs, TxC c) : GoodC cs := by
  refine ⟨?_, h2⟩
  rw [isChs_eq, h1, Bool.and_true, List.all_eq_true]
  exact fun c hc => isChg_of (h2 c hc)
theorem good_rows {cs : List Ch} (h : RwOk cs) {ks : List (List Nat)} (hp : ks.Perm (cs.map (·.1))) (hs : sortedS (ks.map S) = true) : GoodC (ks.map fun k => (k, valL cs k)) := by
  refine good_of ?_ ?_
  · rw [List.map_map]
    have e : ((fun c : Ch => c.1) ∘ fun k => (k, valL cs k)) = id := rfl
    rw [e, List.map_id]
    exact asc_all (hp.nodup_iff.mpr h.1) hs
  · intro c hc
    obtain ⟨k, hk, e⟩ := List.mem_map.mp hc
    rw [← e]
    exact (val_L h (hp.mem_iff.mp hk)).2
theorem putL_ne (cs : List Ch) (k : List Nat) (v : Option (List Nat)) : putL cs k v ≠ [] := by
  unfold putL
  by_cases h : cs.any (fun c => decide (c.1 = k)) = true
  · rw [if_pos h]
    cases cs with
    | nil => cases h
    | cons c r => intro z; cases z
  · rw [if_neg h]
    intro z
    have := congrArg List.length z
    rw [List.length_append] at this
    cases this
end
end My

set_option Elab.async false
set_option linter.all false
set_option maxRecDepth 100000
set_option maxHeartbeats 1000000
namespace My
open PySem PySem.Spec PyProof.Rows L2
local macro_rules | `(tactic| walk_at "len") => `(tactic| first | assumption | omega | decide | (simp only [List.length_append, List.length_take, List.length_drop, List.length_cons, List.length_nil, List.length_replicate]; omega))
local macro_rules | `(tactic| walk_at "side") => `(tactic| first | assumption | exact Nat.zero_le _ | decide | omega)
local macro_rules | `(tactic| walk_at "rd1") => `(tactic| first
  | with_reducible refine s_seq ?_
  | with_reducible refine x_gsub ?_
  | with_reducible refine s_asg ?_
  | ((with_reducible refine s_gn ?_); dsimp only [List.set])
  | ((with_reducible refine x_var (v := ?rdv) ?rdhv ?_); (case rdhv => rfl))
  | with_reducible refine x_c ?_
  | with_reducible refine x_op ?_
  | with_reducible refine x_cons ?_
  | with_reducible refine x_nil ?_
  | with_reducible refine x_cb ?_
  | with_reducible refine x_call ?_
  | with_reducible refine x_callS ?_
  | with_reducible refine x_revT ?_
  | with_reducible refine x_dget ?_
  | with_reducible refine x_din ?_
  | with_reducible refine x_dnotin ?_
  | with_reducible refine s_dput ?_
  | with_reducible refine x_dnew ?_
  | with_reducible refine s_try ?_
  | with_reducible refine s_raise ?_
  | with_reducible refine s_if ?_
  | with_reducible refine s_ret ?_
  | with_reducible refine s_retN ?_
  | with_reducible refine s_next ?_
  | with_reducible refine s_brk ?_
  | with_reducible refine s_cont ?_
  | with_reducible refine s_drop ?_
  | with_reducible refine s_par ?_
  | with_reducible refine s_par3 ?_
  | ((with_reducible refine s_p2 ?_); dsimp only [List.set])
  | ((with_reducible refine s_p3 ?_); dsimp only [List.set])
  | with_reducible refine f_r1 ?_
  | with_reducible refine f_r2 ?_
  | with_reducible refine f_l ?_
  | with_reducible refine f_t ?_
  | with_reducible refine f_s ?_
  | with_reducible refine c_r1 ?_
  | with_reducible refine c_r2 ?_
  | with_reducible refine c_l ?_
  | with_reducible refine c_t ?_
  | with_reducible refine c_s ?_
  | with_reducible refine x_tst ?_
  | with_reducible refine x_tru ?_
  | with_reducible refine x_truB ?_
  | with_reducible refine x_bl2 ?_
  | with_reducible refine x_int ?_
  | with_reducible refine x_str ?_
  | with_reducible refine x_not ?_
  | with_reducible refine x_and ?_
  | with_reducible refine x_or ?_
  | with_reducible refine x_andV ?_
  | with_reducible refine x_orV ?_
  | with_reducible refine x_notV ?_
  | with_reducible refine x_if ?_
  | with_reducible refine x_yes ?_
  | with_reducible refine x_un ?_
  | with_reducible refine x_tup ?_
  | with_reducible refine x_lst ?_
  | with_reducible refine x_callK ?_
  | with_reducible refine x_callK0 ?_
  | with_reducible refine x_bm ?_
  | with_reducible refine x_bm0 ?_
  | with_reducible refine x_tyS ?_
  | with_reducible refine x_sl ?_
  | with_reducible refine x_nopart ?_
  | with_reducible refine x_part ?_
  | with_reducible refine x_fmt0 ?_
  | with_reducible refine x_gc ?_
  | with_reducible refine x_gz ?_
  | with_reducible refine x_ckw ?_
  | with_reducible refine x_fmt ?_
  | with_reducible refine x_chain ?_
  | with_reducible refine a_ii ?_
  | ((with_reducible refine sl_to ?rda ?rdb ?_); (case rda => walk_at "len"); (case rdb => walk_at "len"))
  | ((with_reducible refine sl_from ?rda ?rdb ?_); (case rda => walk_at "len"); (case rdb => walk_at "len"))
  | ((with_reducible refine sl_mid ?rda ?rdb ?rdc ?_); (case rda => walk_at "len"); (case rdb => walk_at "len"); (case rdc => walk_at "len"))
  | ((with_reducible refine a_SS ?rda ?_); (case rda => walk_at "len"))
  | ((with_reducible refine ln_S ?rda ?_); (case rda => walk_at "len"))
  | with_reducible refine e_SS ?_
  | with_reducible refine ne_SS ?_
  | with_reducible refine s_ii ?_
  | ((with_reducible refine md_ii ?rdc ?_); (case rdc => first | decide | assumption | omega))
  | with_reducible refine n_i ?_
  | with_reducible refine e_ii ?_
  | with_reducible refine e_bb ?_
  | with_reducible refine ne_ii ?_
  | with_reducible refine ne_bb ?_
  | with_reducible refine lt_ii ?_
  | with_reducible refine lt_ss ?_
  | with_reducible refine le_ii ?_
  | with_reducible refine le_ss ?_
  | with_reducible refine gt_ii ?_
  | with_reducible refine gt_ss ?_
  | with_reducible refine ge_ii ?_
  | with_reducible refine e_ss ?_
  | with_reducible refine ne_ss ?_
  | with_reducible refine is_N ?_
  | with_reducible refine is_T ?_
  | with_reducible refine is_B ?_
  | with_reducible refine isn_N ?_
  | with_reducible refine isn_T ?_
  | with_reducible refine isn_B ?_
  | with_reducible refine in_s ?_
  | with_reducible refine nin_s ?_
  | with_reducible refine i_i ?_
  | with_reducible refine i_b ?_
  | with_reducible refine ab_i ?_
  | with_reducible refine mx_ii ?_
  | with_reducible refine mn_ii ?_
  | with_reducible refine ty_N ?_
  | with_reducible refine ty_B ?_
  | with_reducible refine ty_I ?_
  | with_reducible refine ty_S ?_
  | with_reducible refine ma_s ?_
  | with_reducible refine mp_s ?_
  | with_reducible refine mdg_s ?_
  | with_reducible refine mf_s ?_
  | with_reducible refine iteT ?_
  | with_reducible refine iteF ?_
  | with_reducible refine iteNt ?_
  | with_reducible refine iteNf ?_
  | with_reducible refine iteTd (by decide) ?_
  | with_reducible refine iteFd (by decide) ?_
  | with_reducible refine iteNd (by decide) ?_
  | with_reducible refine iteNdF (by decide) ?_
  | ((with_reducible refine iteFd ?rdn ?_); (case rdn => (intro rdz; cases rdz; done)))
  | ((with_reducible refine iteNdF ?rdn ?_); (case rdn => (intro rdz; cases rdz; done))))
local macro_rules | `(tactic| walk_at "rd") => `(tactic| (repeat walk_at "rd1"))
section
variable {P : Program} {w : World} {K : PySem.W.Frag} {mg : Str → Option Value} {base : Heap}
def sp_check_changes (x : Addr) (K : PySem.W.Frag) : Sp := fun vs H Q E => ∃ (v : V) (d : PyData), vs = [v] ∧ Dp K H v d ∧ (∀ ds, d = .tuple ds → ds.length ≤ 100000) ∧ (isChsD d = true → ∀ H', Same H H' → Q .non H') ∧ (isChsD d = false → ∀ H', Same H H' → E (.ref x) none H')
theorem ok_check_changes (Y : Fx K mg) : FnOk P w K mg base (L2.CX P w) 4 Y.a_check_changes Y.fd_check_changes ["changes"] (sp_check_changes Y.x_InvalidChanges K) := by
  refine Y.F_check_changes.okX sc_check_changes (fun vs H Q E h => ?_) (fun cdv A outer s H vs Q E hr h => ?_)
  · obtain ⟨v, d, rfl, _⟩ := h
    rfl
  · obtain ⟨v, d, rfl, hv, hl, q, e⟩ := h
    refine ⟨_, b_check_changes Y (ok_is_changes Y) hr, ?_⟩
    show t_check_changes K Y E _ _ [some v] H
    unfold t_check_changes
    walk_at "rd"
    refine ⟨v, d, rfl, hv, hl, fun H' hS => ?_⟩
    walk_at "rd"
    cases ht : isChsD d with
    | false =>
      walk_at "rd"
      exact e ht H' hS
    | true =>
      refine iteNt ?_
      exact q ht H' hS
/-! stretches -/
def loB : Bd → List Nat → Bool
  | none, _ => true
  | some l, k => !decide (k < l)
def hiB : Bd → List Nat → Bool
  | none, _ => true
  | some h, k => decide (k < h)
def liesG (k : List Nat) (g : Pd) : Bool := loB g.1 k && hiB g.2 k
def sp_lies_in (K : PySem.W.Frag) : Sp := fun vs H Q _ => ∃ (k : List Nat) (g : Pd), vs = [.str (S k), vlV g.1, vlV g.2] ∧ Q (.bl (liesG k g)) H
theorem ok_lies_in (Y : Fx K mg) : FnOk P w K mg base CX0 1 Y.a_lies_in Y.fd_lies_in ["key", "low", "high"] (sp_lies_in K) := by
  refine Y.F_lies_in.ok sc_lies_in (fun vs H Q E h => ?_) (fun cdv A outer s H vs Q E hr h => ?_)
  · obtain ⟨k, g, rfl, _⟩ := h
    rfl
  · obtain ⟨k, ⟨lo, hi⟩, rfl, q⟩ := h
    refine ⟨_, b_lies_in Y hr, ?_⟩
    show t_lies_in K _ [some (.str (S k)), some (vlV lo), some (vlV hi)] H
    unfold t_lies_in
    have q' : Q (.bl (loB lo k && hiB hi k)) H := q
    clear q
    cases lo with
    | none =>
      show tRet _ _ [some (.str (S k)), some .non, some (vlV hi)] H
      cases hi with
      | none =>
        show tRet _ _ [some (.str (S k)), some .non, some .non] H
        walk_at "rd"
        exact q'
      | some h =>
        show tRet _ _ [some (.str (S k)), some .non, some (.str (S h))] H
        walk_at "rd"
        exact q'
    | some l =>
      have q2 : Q (.bl ((!decide (k < l)) && hiB hi k)) H := q'
      show tRet _ _ [some (.str (S k)), some (.str (S l)), some (vlV hi)] H
      cases hi with
      | none =>
        show tRet _ _ [some (.str (S k)), some (.str (S l)), some .non] H
        walk_at "rd"
        rw [S_cps, S_cps]
        refine ite2' (fun e => ?_) (fun e => ?_)
        · rw [e] at q2
          walk_at "rd"
          exact q2
        · rw [e] at q2
          exact q2
      | some h =>
        show tRet _ _ [some (.str (S k)), some (.str (S l)), some (.str (S h))] H
        walk_at "rd"
        rw [S_cps, S_cps]
        refine ite2' (fun e => ?_) (fun e => ?_)
        · rw [e] at q2
          walk_at "rd"
          exact q2
        · rw [e] at q2
          exact q2
def sp_lies_in_any (K : PySem.W.Frag) : Sp := fun vs H Q _ => ∃ (k : List Nat) (x : V) (gs : List Pd), vs = [.str (S k), x] ∧ Dp K H x (.tuple (gs.map pdD)) ∧ gs.length ≤ 100 ∧ ∀ H', Same H H' → Q (.bl (gs.any (liesG k))) H'
theorem ok_lies_in_any (Y : Fx K mg) : FnOk P w K mg base CX0 2 Y.a_lies_in_any Y.fd_lies_in_any ["key", "stretches"] (sp_lies_in_any K) := by
  refine Y.F_lies_in_any.ok sc_lies_in_any (fun vs H Q E h => ?_) (fun cdv A outer s H vs Q E hr h => ?_)
  · obtain ⟨k, x, gs, rfl, _⟩ := h
    rfl
  · obtain ⟨k, x, gs, rfl, hx, hl, q⟩ := h
    refine ⟨_, b_lies_in_any Y (ok_lies_in Y) hr, ?_⟩
    obtain ⟨p, us, rfl, hp, ha⟩ := dp_tup' hx
    show t_lies_in_any K _ _ [some (.str (S k)), some (.ref p), none, none] H
    unfold t_lies_in_any
    have hul := dpAll_len ha
    rw [List.length_map] at hul
    walk_at "rd"
    refine lcT_mk hp (fun D i H' => Same H H' ∧ H' D = some (.lst ((gs.take i).map fun g => V.bl (liesG k g)))) (fun D hD => ⟨same_upd hD, upd_same⟩) (fun D i H' hD _ hP => same_sqt hP.1 hp) (fun D i x H' hD hxi hP => ?_) (fun D H' hD hP => ?_)
    · obtain ⟨hS, hH⟩ := hP
      obtain ⟨g, hg, hdg⟩ := all_pd ha hxi
      have hi := (List.getElem?_eq_some_iff.mp hg).1
      obtain ⟨t, rfl, ht⟩ := dp_pd hdg
      refine gt_T (same_sqt hS ht) rfl ?_
      refine x_gc ?_
      refine s_gn ?_
      refine x_gc ?_
      refine s_gn ?_
      refine x_gz ?_
      refine ⟨rfl, ?_⟩
      show tYes [some (.str (S k)), some (.ref p), some (vlV g.1), some (vlV g.2)] H' _
      walk_at "rd"
      refine ⟨k, g, rfl, ?_⟩
      refine ⟨_, hH, Nat.lt_of_le_of_lt (show _ ≤ 200 by rw [List.length_map, List.length_take]; omega) (by decide), same_mut hS hD, ?_⟩
      rw [upd_same, bv_snoc hg]
    · obtain ⟨hS, hH⟩ := hP
      rw [hul, List.take_of_length_le (Nat.le_refl _), show (gs.map fun g => V.bl (liesG k g)) = (gs.map (liesG k)).map V.bl by rw [List.map_map]; rfl] at hH
      walk_at "rd"
      refine any_b (lst_of hH) ?_
      have e : (gs.map (liesG k)).any id = gs.any (liesG k) := by rw [List.any_map]; rfl
      rw [e]
      exact q _ hS
/-! holds -/
abbrev Hd := List Ch × List Pd
def hdD (h : Hd) : PyData := .tuple [chsD h.1, .tuple (h.2.map pdD)]
def HdS (h : Hd) : Prop := h.1.length ≤ 100 ∧ h.2.length ≤ 100
def ownB (h : Hd) (k : List Nat) : Bool := decide (k ∈ h.1.map (·.1)) || h.2.any (liesG k)
def hasB (h : Hd) (ks : List (List Nat)) : Bool := ks.any (ownB h)
def chgB (h : Hd) (gs : List Pd) : Bool := h.1.any fun c => gs.any (liesG c.1)
theorem tup_ch (c : Ch) : tupD (chD c) = true := by
  obtain ⟨k, o⟩ := c
  cases o <;> simp [chD, vlD, tupD, tupDs]
theorem tup_pd (g : Pd) : tupD (pdD g) = true := by
  obtain ⟨a, b⟩ := g
  cases a <;> cases b <;> simp [pdD, vlD, tupD, tupDs]
theorem tup_chs (cs : List Ch) : tupD (chsD cs) = true := by
  show tupD (.tuple (cs.map chD)) = true
  rw [tupD]
  exact tupDs_of fun d hd => by
    obtain ⟨c, _, rfl⟩ := List.mem_map.mp hd
    exact tup_ch c
theorem tup_pds (gs : List Pd) : tupD (.tuple (gs.map pdD)) = true := by
  rw [tupD]
  exact tupDs_of fun d hd => by
    obtain ⟨c, _, rfl⟩ := List.mem_map.mp hd
    exact tup_pd c
theorem tup_hd (h : Hd) : tupD (hdD h) = true := by
  show tupD (.tuple [chsD h.1, .tuple (h.2.map pdD)]) = true
  rw [tupD, tupDs, tupDs, tupDs, tup_chs, tup_pds]
  rfl
/-- a dict of texts, all to True -/
def seenL (ls : List (List Nat)) : List (Key × V) := ls.map fun l => ((Sum.inr (S l) : Key), V.bl true)
theorem seen_eq (l k : List Nat) : ((Sum.inr (S l) : Key) = Sum.inr (S k)) = (l = k) := by
  apply propext
  exact ⟨fun h => S_inj (Sum.inr.inj h), fun h => by rw [h]⟩
theorem seen_put (ls : List (List Nat)) (k : List Nat) : putK (seenL ls) (Sum.inr (S k) : Key) (.bl true) = seenL (if k ∈ ls then ls else ls ++ [k]) := by
  unfold putK seenL
  have e : (ls.map fun l => ((Sum.inr (S l) : Key), V.bl true)).any (fun kv => decide (kv.1 = (Sum.inr (S k) : Key))) = decide (k ∈ ls) := by
    rw [List.any_map, Bool.eq_iff_iff, List.any_eq_true, decide_eq_true_eq]
    constructor
    · rintro ⟨l, hl, h⟩
      have h2 : (Sum.inr (S l) : Key) = Sum.inr (S k) := of_decide_eq_true h
      rw [seen_eq] at h2
      rw [← h2]
      exact hl
    · intro h
      exact ⟨k, h, decide_eq_true rfl⟩
  rw [e]
  by_cases h : k ∈ ls
  · rw [if_pos (decide_eq_true h), if_pos h, List.map_map]
    congr 1
    funext l
    show (if (Sum.inr (S l) : Key) = Sum.inr (S k) then ((Sum.inr (S l) : Key), V.bl true) else ((Sum.inr (S l) : Key), V.bl true)) = _
    split <;> rfl
  · rw [if_neg (by rw [decide_eq_false h]; decide), if_neg h, List.map_append]
    rfl
theorem seen_has (ls : List (List Nat)) (k : List Nat) : (valV (seenL ls) (Sum.inr (S k) : Key)).isSome = decide (k ∈ ls) := by
  unfold valV seenL
  rw [List.find?_map, Option.isSome_map, Option.isSome_map, Bool.eq_iff_iff, List.find?_isSome, decide_eq_true_eq]
  constructor
  · rintro ⟨l, hl, h⟩
    have h2 : (Sum.inr (S l) : Key) = Sum.inr (S k) := of_decide_eq_true h
    rw [seen_eq] at h2
    rw [← h2]
    exact hl
  · intro h
    exact ⟨k, h, decide_eq_true rfl⟩
theorem seen_len (ls : List (List Nat)) : (seenL ls).length = ls.length := List.length_map ..
theorem ln_map {α : Type} (f : α → V) (l : List α) : (l.map f).length = l.length := List.length_map ..
def sp_has_any (K : PySem.W.Frag) : Sp := fun vs H Q _ => ∃ (x : V) (h : Hd) (p : Addr) (ks : List (List Nat)), vs = [x, .ref p] ∧ Dp K H x (hdD h) ∧ HdS h ∧ SqL K H p (tv ks) ∧ ks.length ≤ 100 ∧ ∀ H', Same H H' → Q (.bl (hasB h ks)) H'
theorem ok_has_any (Y : Fx K mg) : FnOk P w K mg base CX0 3 Y.a_has_any Y.fd_has_any ["hold", "keys"] (sp_has_any K) := by
  refine Y.F_has_any.ok sc_has_any (fun vs H Q E h => ?_) (fun cdv A outer s H vs Q E hr h => ?_)
  · obtain ⟨x, h, p, ks, rfl, _⟩ := h
    rfl
  · obtain ⟨x, h, p, ks, rfl, hx, hz, hp, hkl, q⟩ := h
    refine ⟨_, b_has_any Y (ok_lies_in_any Y) hr, ?_⟩
    obtain ⟨t, u, v, rfl, ht, hu, hv⟩ := dp_tup2 hx
    obtain ⟨pu, us, rfl, hpu, hau⟩ := dp_tup' hu
    have hul := dpAll_len hau
    rw [List.length_map] at hul
    show t_has_any K _ _ [some (.ref t), some (.ref p), none, none, none] H
    unfold t_has_any
    walk_at "rd"
    refine dcT_mk (a := pu) (xs := us) (fun R h => x_op (x_var (v := .ref t) rfl (show rIX K (.ref t) (.int 0) H R from ix_T ht (by rfl) h))) hpu (fun D i H' => Same H H' ∧ ∃ ls, H' D = some (.dK (seenL ls)) ∧ (∀ k, k ∈ ls ↔ k ∈ (h.1.take i).map (·.1)) ∧ ls.length ≤ i) (fun D hD => ⟨same_upd hD, [], upd_same, fun k => Iff.rfl, Nat.zero_le _⟩) (fun D i H' hD hP => same_sqt hP.1 hpu) (fun D i x H' hD hxi hP => ?_) (fun D H1 hD hP => ?_)
    · obtain ⟨hS, ls, hH, hm, hll⟩ := hP
      obtain ⟨c, hc, hdc⟩ := all_at hau hxi
      have hi := (List.getElem?_eq_some_iff.mp hc).1
      obtain ⟨tc, rfl, htc⟩ := dp_ch hdc
      refine gt_T (same_sqt hS htc) rfl ?_
      refine x_gc ?_
      refine s_gn ?_
      refine x_gc ?_
      refine s_gn ?_
      refine x_gz ?_
      refine ⟨rfl, ?_⟩
      show tYes [some (.ref t), some (.ref p), none, some (.str (S c.1)), some (vlV c.2)] H' _
      walk_at "rd"
      refine ⟨_, Sum.inr (S c.1), rfl, hH, Nat.lt_of_le_of_lt (show _ ≤ 200 by rw [seen_len]; have := hz.1; omega) (by decide), same_mut hS hD, _, by rw [upd_same, seen_put], fun k => ?_, ?_⟩
      · rw [take_snoc hc, List.map_append, List.mem_append, ← hm k]
        by_cases hk : c.1 ∈ ls
        · rw [if_pos hk]
          refine ⟨.inl, fun z => z.elim id fun z => ?_⟩
          rw [List.mem_singleton.mp z]
          exact hk
        · rw [if_neg hk, List.mem_append]
          rfl
      · by_cases hk : c.1 ∈ ls
        · rw [if_pos hk]; omega
        · rw [if_neg hk, List.length_append]; show ls.length + 1 ≤ i + 1; omega
    · obtain ⟨hS, ls, hH, hm, hll⟩ := hP
      rw [hul, List.take_of_length_le (Nat.le_refl _)] at hm
      refine s_gn ?_
      show tRet _ _ [some (.ref t), some (.ref p), some (.ref D), none, none] H1
      walk_at "rd"
      refine lcL_mk (hS.seq hp) (fun D2 i H2 => Same H1 H2 ∧ H2 D2 = some (.lst ((ks.take i).map fun k => V.bl (ownB h k)))) (fun D2 hD2 => ⟨same_upd hD2, upd_same⟩) (fun D2 i H2 hD2 _ hP => hP.1.seq (hS.seq hp)) (fun D2 i x H2 hD2 hxi hP => ?_) (fun D2 H2 hD2 hP => ?_)
      · obtain ⟨hS2, hH2⟩ := hP
        unfold tv at hxi
        rw [List.getElem?_map] at hxi
        cases hki : ks[i]? with
        | none => rw [hki] at hxi; cases hxi
        | some k =>
          rw [hki] at hxi
          cases hxi
          refine s_gn ?_
          refine ⟨rfl, ?_⟩
          show tYes [some (.ref t), some (.ref p), some (.ref D), some (.str (S k)), none] H2 _
          have hi := (List.getElem?_eq_some_iff.mp hki).1
          walk_at "rd"
          refine ⟨D, _, rfl, .inl ⟨_, Sum.inr (S k), .inl (hS2 _ _ hH), rfl, rfl⟩, ?_⟩
          rw [seen_has]
          have em : decide (k ∈ ls) = decide (k ∈ h.1.map (·.1)) := decide_eq_decide.mpr (hm k)
          rw [em]
          have fin : ∀ H3, Same H2 H3 → ∃ acc, H3 D2 = some (.lst acc) ∧ acc.length < sizeLine ∧ (Same H1 (upd H3 D2 (.lst (acc ++ [V.bl (ownB h k)]))) ∧ upd H3 D2 (.lst (acc ++ [V.bl (ownB h k)])) D2 = some (.lst ((ks.take (i + 1)).map fun k => V.bl (ownB h k)))) := by
            intro H3 hS3
            refine ⟨_, hS3 _ _ hH2, Nat.lt_of_le_of_lt (show _ ≤ 200 by rw [List.length_map, List.length_take]; omega) (by decide), same_mut (hS2.trans hS3) hD2, ?_⟩
            rw [upd_same, bv_snoc hki]
          walk_at "rd"
          refine ite2' (fun e => ?_) (fun e => ?_)
          · have eo : ownB h k = true := by unfold ownB; rw [e]; rfl
            rw [eo] at fin
            exact fin _ (Same.refl H2)
          · have eo : ownB h k = h.2.any (liesG k) := by unfold ownB; rw [e]; rfl
            rw [eo] at fin
            walk_at "rd"
            refine ix_T (same_sqt (hS.trans hS2) ht) (by rfl) ?_
            walk_at "rd"
            exact ⟨k, v, h.2, rfl, dp_mono (hS.trans hS2) _ _ hv, hz.2, fun H3 hS3 => fin H3 hS3⟩
      · obtain ⟨hS2, hH2⟩ := hP
        rw [tv_len, List.take_of_length_le (Nat.le_refl _), show (ks.map fun k => V.bl (ownB h k)) = (ks.map (ownB h)).map V.bl by rw [List.map_map]; rfl] at hH2
        walk_at "rd"
        refine any_b (lst_of hH2) ?_
        have e : (ks.map (ownB h)).any id = hasB h ks := by rw [List.any_map]; rfl
        rw [e]
        exact q _ (hS.trans hS2)
end
end My

set_option Elab.async false
set_option linter.all false
set_option maxRecDepth 100000
set_option maxHeartbeats 1000000
namespace My
open PySem PySem.Spec PyProof.Rows L2
local macro_rules | `(tactic| walk_at "len") => `(tactic| first | assumption | omega | decide | (simp only [List.length_append, List.length_take, List.length_drop, List.length_cons, List.length_nil, List.length_replicate]; omega))
local macro_rules | `(tactic| walk_at "side") => `(tactic| first | assumption | exact Nat.zero_le _ | decide | omega)
local macro_rules | `(tactic| walk_at "rd1") => `(tactic| first
  | with_reducible refine s_seq ?_
  | with_reducible refine x_gsub ?_
  | with_reducible refine s_asg ?_
  | ((with_reducible refine s_gn ?_); dsimp only [List.set])
  | ((with_reducible refine x_var (v := ?rdv) ?rdhv ?_); (case rdhv => rfl))
  | with_reducible refine x_c ?_
  | with_reducible refine x_op ?_
  | with_reducible refine x_cons ?_
  | with_reducible refine x_nil ?_
  | with_reducible refine x_cb ?_
  | with_reducible refine x_call ?_
  | with_reducible refine x_callS ?_
  | with_reducible refine x_revT ?_
  | with_reducible refine x_dget ?_
  | with_reducible refine x_din ?_
  | with_reducible refine x_dnotin ?_
  | with_reducible refine s_dput ?_
  | with_reducible refine x_dnew ?_
  | with_reducible refine s_try ?_
  | with_reducible refine s_raise ?_
  | with_reducible refine s_if ?_
  | with_reducible refine s_ret ?_
  | with_reducible refine s_retN ?_
  | with_reducible refine s_next ?_
  | with_reducible refine s_brk ?_
  | with_reducible refine s_cont ?_
  | with_reducible refine s_drop ?_
  | with_reducible refine s_par ?_
  | with_reducible refine s_par3 ?_
  | ((with_reducible refine s_p2 ?_); dsimp only [List.set])
  | ((with_reducible refine s_p3 ?_); dsimp only [List.set])
  | with_reducible refine f_r1 ?_
  | with_reducible refine f_r2 ?_
  | with_reducible refine f_l ?_
  | with_reducible refine f_t ?_
  | with_reducible refine f_s ?_
  | with_reducible refine c_r1 ?_
  | with_reducible refine c_r2 ?_
  | with_reducible refine c_l ?_
  | with_reducible refine c_t ?_
  | with_reducible refine c_s ?_
  | with_reducible refine x_tst ?_
  | with_reducible refine x_tru ?_
  | with_reducible refine x_truB ?_
  | with_reducible refine x_bl2 ?_
  | with_reducible refine x_int ?_
  | with_reducible refine x_str ?_
  | with_reducible refine x_not ?_
  | with_reducible refine x_and ?_
  | with_reducible refine x_or ?_
  | with_reducible refine x_andV ?_
  | with_reducible refine x_orV ?_
  | with_reducible refine x_notV ?_
  | with_reducible refine x_if ?_
  | with_reducible refine x_yes ?_
  | with_reducible refine x_un ?_
  | with_reducible refine x_tup ?_
  | with_reducible refine x_lst ?_
  | with_reducible refine x_callK ?_
  | with_reducible refine x_callK0 ?_
  | with_reducible refine x_bm ?_
  | with_reducible refine x_bm0 ?_
  | with_reducible refine x_tyS ?_
  | with_reducible refine x_sl ?_
  | with_reducible refine x_nopart ?_
  | with_reducible refine x_part ?_
  | with_reducible refine x_fmt0 ?_
  | with_reducible refine x_gc ?_
  | with_reducible refine x_gz ?_
  | with_reducible refine x_ckw ?_
  | with_reducible refine x_fmt ?_
  | with_reducible refine x_chain ?_
  | with_reducible refine a_ii ?_
  | ((with_reducible refine sl_to ?rda ?rdb ?_); (case rda => walk_at "len"); (case rdb => walk_at "len"))
  | ((with_reducible refine sl_from ?rda ?rdb ?_); (case rda => walk_at "len"); (case rdb => walk_at "len"))
  | ((with_reducible refine sl_mid ?rda ?rdb ?rdc ?_); (case rda => walk_at "len"); (case rdb => walk_at "len"); (case rdc => walk_at "len"))
  | ((with_reducible refine a_SS ?rda ?_); (case rda => walk_at "len"))
  | ((with_reducible refine ln_S ?rda ?_); (case rda => walk_at "len"))
  | with_reducible refine e_SS ?_
  | with_reducible refine ne_SS ?_
  | with_reducible refine s_ii ?_
  | ((with_reducible refine md_ii ?rdc ?_); (case rdc => first | decide | assumption | omega))
  | with_reducible refine n_i ?_
  | with_reducible refine e_ii ?_
  | with_reducible refine e_bb ?_
  | with_reducible refine ne_ii ?_
  | with_reducible refine ne_bb ?_
  | with_reducible refine lt_ii ?_
  | with_reducible refine lt_ss ?_
  | with_reducible refine le_ii ?_
  | with_reducible refine le_ss ?_
  | with_reducible refine gt_ii ?_
  | with_reducible refine gt_ss ?_
  | with_reducible refine ge_ii ?_
  | with_reducible refine e_ss ?_
  | with_reducible refine ne_ss ?_
  | with_reducible refine is_N ?_
  | with_reducible refine is_T ?_
  | with_reducible refine is_B ?_
  | with_reducible refine isn_N ?_
  | with_reducible refine isn_T ?_
  | with_reducible refine isn_B ?_
  | with_reducible refine in_s ?_
  | with_reducible refine nin_s ?_
  | with_reducible refine i_i ?_
  | with_reducible refine i_b ?_
  | with_reducible refine ab_i ?_
  | with_reducible refine mx_ii ?_
  | with_reducible refine mn_ii ?_
  | with_reducible refine ty_N ?_
  | with_reducible refine ty_B ?_
  | with_reducible refine ty_I ?_
  | with_reducible refine ty_S ?_
  | with_reducible refine ma_s ?_
  | with_reducible refine mp_s ?_
  | with_reducible refine mdg_s ?_
  | with_reducible refine mf_s ?_
  | with_reducible refine iteT ?_
  | with_reducible refine iteF ?_
  | with_reducible refine iteNt ?_
  | with_reducible refine iteNf ?_
  | with_reducible refine iteTd (by decide) ?_
  | with_reducible refine iteFd (by decide) ?_
  | with_reducible refine iteNd (by decide) ?_
  | with_reducible refine iteNdF (by decide) ?_
  | ((with_reducible refine iteFd ?rdn ?_); (case rdn => (intro rdz; cases rdz; done)))
  | ((with_reducible refine iteNdF ?rdn ?_); (case rdn => (intro rdz; cases rdz; done))))
local macro_rules | `(tactic| walk_at "rd") => `(tactic| (repeat walk_at "rd1"))
section
variable {P : Program} {w : World} {K : PySem.W.Frag} {mg : Str → Option Value} {base : Heap}
/-! a dict of holds -/
abbrev En := List Nat × V × Hd
def enK (e : En) : Key × V := (Sum.inr (S e.1), e.2.1)
structure EnOk (K : PySem.W.Frag) (H : Hp) (es : List En) : Prop where
  dp : ∀ e ∈ es, Dp K H e.2.1 (hdD e.2.2)
  sz : ∀ e ∈ es, HdS e.2.2
  nd : (es.map (·.1)).Nodup
  ln : es.length ≤ 20
theorem EnOk.at {H H' : Hp} {es : List En} (h : EnOk K H es) (k : ∀ (d : PyData) (v : V), tupD d = true → Dp K H v d → Dp K H' v d) : EnOk K H' es := ⟨fun e he => k _ _ (tup_hd _) (h.dp e he), h.sz, h.nd, h.ln⟩
theorem EnOk.mono {H H' : Hp} {es : List En} (h : EnOk K H es) (k : Same H H') : EnOk K H' es := h.at fun d v _ z => dp_mono k d v z
/-- the same while a dict is locked -/
theorem dp_lock {H : Hp} {d : Addr} {kvs : List (Key × V)} {u : HO} (hd : H d = some (.dK kvs)) (x : PyData) (v : V) (hx : tupD x = true) (h : Dp K H v x) : Dp K (upd H d u) v x := by
  have h1 : Dp K (ms [d] H) v x := ms_dp (fun y hy o ho => by
    rw [List.mem_singleton.mp hy, hd] at ho
    cases ho
    exact True.intro) x v hx h
  exact ms_un (dp_mono (ms_upd (List.mem_singleton.mpr rfl)) _ _ h1)
theorem en_val {es : List En} (hn : (es.map (·.1)).Nodup) {e : En} (he : e ∈ es) : valV (es.map enK) (Sum.inr (S e.1) : Key) = some e.2.1 := by
  unfold valV
  rw [List.find?_map, Option.map_map]
  have e2 : ((fun kv : Key × V => decide (kv.1 = (Sum.inr (S e.1) : Key))) ∘ enK) = fun c : En => decide (c.1 = e.1) := by
    funext c
    exact decide_eq_decide.mpr (by rw [show ((enK c).1 = (Sum.inr (S e.1) : Key)) = (c.1 = e.1) from seen_eq c.1 e.1])
  rw [e2]
  induction es with
  | nil => cases he
  | cons c es ih =>
    rw [List.map_cons, List.nodup_cons] at hn
    rw [List.find?_cons]
    by_cases h : c.1 = e.1
    · rw [decide_eq_true h]
      rcases List.mem_cons.mp he with rfl | he
      · rfl
      · exact absurd (List.mem_map.mpr ⟨e, he, rfl⟩) (h ▸ hn.1)
    · rw [decide_eq_false h]
      rcases List.mem_cons.mp he with rfl | he
      · exact absurd rfl h
      · exact ih hn.2 he
def nmL (f : Hd → Bool) (es : List En) : List (List Nat) := (es.filter fun e => f e.2.2).map (·.1)
theorem nm_snoc {f : Hd → Bool} {es : List En} {i : Nat} {e : En} (h : es[i]? = some e) : nmL f (es.take (i + 1)) = if f e.2.2 = true then nmL f (es.take i) ++ [e.1] else nmL f (es.take i) := by
  unfold nmL
  rw [take_snoc h, List.filter_append, List.map_append]
  by_cases hf : f e.2.2 = true
  · rw [if_pos hf, show [e].filter (fun e => f e.2.2) = [e] by rw [List.filter_cons, if_pos hf]; rfl]
    rfl
  · rw [if_neg hf, show [e].filter (fun e => f e.2.2) = [] by rw [List.filter_cons, if_neg hf]; rfl]
    simp
theorem nm_len (f : Hd → Bool) (es : List En) : (nmL f es).length ≤ es.length := by
  unfold nmL
  rw [List.length_map]
  exact List.length_filter_le ..
theorem en_at {es : List En} {i : Nat} {k : Key} {v : V} (h : (es.map enK)[i]? = some (k, v)) : ∃ e, es[i]? = some e ∧ k = Sum.inr (S e.1) ∧ v = e.2.1 := by
  rw [List.getElem?_map] at h
  cases he : es[i]? with
  | none => rw [he] at h; cases h
  | some e => rw [he] at h; cases h; exact ⟨e, rfl, rfl, rfl⟩
theorem strs_of (ys : List Str) : ∃ ks : List (List Nat), ys = ks.map S := ⟨ys.map fun z => z.cps.toList, by
  rw [List.map_map]
  conv => lhs; rw [← List.map_id ys]
  exact List.map_congr_left fun z _ => S_eta z⟩
theorem perm_S {ks ls : List (List Nat)} (h : (ks.map S).Perm (ls.map S)) : ks.Perm ls := by
  have h2 := h.map (fun z : Str => z.cps.toList)
  rw [List.map_map, List.map_map] at h2
  have e1 : ((fun z : Str => z.cps.toList) ∘ S) = id := rfl
  rw [e1, List.map_id, List.map_id] at h2
  exact h2
theorem same_back {H H' : Hp} {d : Addr} {u w' : HO} (hd : H d = some u) (h : Same (upd H d w') H') : Same H (upd H' d u) := fun a o e => by
  by_cases ha : a = d
  · subst ha
    rw [hd] at e
    rw [upd_same, e]
  · rw [upd_ne ha]
    exact h a o (by rw [upd_ne ha]; exact e)
theorem bool_chs {d : PyData} (h : isChsD d = true) : ∃ ds, d = .tuple ds := by
  cases d with
  | tuple ds => exact ⟨ds, rfl⟩
  | _ => cases h
def sp_held_names (x : Addr) (K : PySem.W.Frag) : Sp := fun vs H Q E => ∃ (d : Addr) (es : List En) (v : V) (D : PyData), vs = [.ref d, v] ∧ H d = some (.dK (es.map enK)) ∧ EnOk K H es ∧ Dp K H v D ∧ (∀ ds, D = .tuple ds → ds.length ≤ 100000) ∧
  (isChsD D = true → ∃ cs, D = chsD cs ∧ cs.length ≤ 100 ∧ ∀ ns p H', Same H H' → H' p = some (.tup (tv ns)) → ns.Perm (nmL (fun h => hasB h (cs.map (·.1))) es) → sortedS (ns.map S) = true → Q (.ref p) H') ∧ (isChsD D = false → ∀ H', Same H H' → E (.ref x) none H')
theorem ok_held_names (Y : Fx K mg) : FnOk P w K mg base (L2.CX P w) 5 Y.a_held_names Y.fd_held_names ["holds", "changes"] (sp_held_names Y.x_InvalidChanges K) := by
  refine Y.F_held_names.okX sc_held_names (fun vs H Q E h => ?_) (fun cdv A outer s H vs Q E hr h => ?_)
  · obtain ⟨d, es, v, D, rfl, _⟩ := h
    rfl
  · obtain ⟨d, es, v, D, rfl, hd, hE, hv, hz, q, e⟩ := h
    refine ⟨_, b_held_names Y (sp_check_changes := sp_check_changes Y.x_InvalidChanges) (ok_check_changes Y) (ok_has_any Y) hr, ?_⟩
    show t_held_names K E _ _ _ [some (.ref d), some v, none, none, none, none] H
    unfold t_held_names
    walk_at "rd"
    refine ⟨v, D, rfl, hv, hz, fun hc H1 hS1 => ?_, fun hc H1 hS1 => e hc H1 hS1⟩
    obtain ⟨cs, rfl, hcl, q⟩ := q hc
    obtain ⟨p, us, rfl, hp, ha⟩ := dp_tup' hv
    have hul := dpAll_len ha
    rw [List.length_map] at hul
    walk_at "rd"
    refine lcT_mk (same_sqt hS1 hp) (fun D i H' => Same H1 H' ∧ H' D = some (.lst (tv ((cs.take i).map (·.1))))) (fun D hD => ⟨same_upd hD, upd_same⟩) (fun D i H' hD _ hP => same_sqt (hS1.trans hP.1) hp) (fun D i x H' hD hxi hP => ?_) (fun D H2 hD hP => ?_)
    · obtain ⟨hS, hH⟩ := hP
      obtain ⟨c, hc, hdc⟩ := all_at ha hxi
      have hi := (List.getElem?_eq_some_iff.mp hc).1
      obtain ⟨tc, rfl, htc⟩ := dp_ch hdc
      refine gt_T (same_sqt (hS1.trans hS) htc) rfl ?_
      refine x_gc ?_
      refine s_gn ?_
      refine x_gc ?_
      refine s_gn ?_
      refine x_gz ?_
      refine ⟨rfl, ?_⟩
      show tYes [some (.ref d), some (.ref p), none, some (.str (S c.1)), some (vlV c.2), none] H' _
      walk_at "rd"
      refine ⟨_, hH, Nat.lt_of_le_of_lt (show _ ≤ 200 by rw [tv_len, List.length_map, List.length_take]; omega) (by decide), same_mut hS hD, ?_⟩
      rw [upd_same, take_snoc hc, List.map_append, tv_app]
      rfl
    · obtain ⟨hS2, hH2⟩ := hP
      rw [hul, List.take_of_length_le (Nat.le_refl _)] at hH2
      have hS02 := hS1.trans hS2
      have hd2 := hS02 _ _ hd
      have hE2 := hE.mono hS02
      refine s_gn ?_
      show tRet _ _ [some (.ref d), some (.ref p), some (.ref D), none, none, none] H2
      walk_at "rd"
      refine x_lockE hd2 True.intro fun od => ?_
      have hE3 : EnOk K (upd H2 d (.frz od (.dK (es.map enK)))) es := hE2.at fun x v hx h => dp_lock hd2 x v hx h
      have hD3 : upd H2 d (.frz od (.dK (es.map enK))) D = some (.lst (tv (cs.map (·.1)))) := by
        rw [upd_ne (fun z => by rw [z, hd2] at hH2; cases hH2)]
        exact hH2
      have hd3 : upd H2 d (.frz od (.dK (es.map enK))) d = some (.frz od (.dK (es.map enK))) := upd_same
      have back : ∀ H', Same (upd H2 d (.frz od (.dK (es.map enK)))) H' → Same H (upd H' d (.dK (es.map enK))) := fun H' h => hS02.trans (same_back hd2 h)
      generalize hH3 : upd H2 d (.frz od (.dK (es.map enK))) = H3 at hE3 hD3 hd3 back ⊢
      refine lcK_mk (i := 0) (d := d) (o := od) rfl hd3 (fun B i H' => Same H3 H' ∧ H' B = some (.lst (tv (nmL (fun h => hasB h (cs.map (·.1))) (es.take i))))) (fun B hB => ⟨same_upd hB, upd_same⟩) (fun B i H' hB hP => hP.1 _ _ hd3) (fun B i k v H' hB hi hP => ?_) (fun B H' hB hP => ?_)
      · obtain ⟨hS, hH⟩ := hP
        obtain ⟨e, he, rfl, rfl⟩ := en_at hi
        have hem := List.mem_of_getElem? he
        refine s_gn ?_
        refine ⟨rfl, ?_⟩
        show tTru1 _ _ [some (.ref d), some (.ref p), some (.ref D), none, none, some (.str (S e.1))] H' _
        walk_at "rd"
        refine ⟨d, e.2.1, rfl, .inl ⟨_, Sum.inr (S e.1), .inr ⟨od, hS _ _ hd3⟩, rfl, (en_val hE.nd hem).symm⟩, ?_⟩
        walk_at "rd"
        refine ⟨e.2.1, e.2.2, D, cs.map (·.1), rfl, dp_mono hS _ _ (hE3.dp e hem), hE.sz e hem, lst_of (hS _ _ hD3), by rw [List.length_map]; exact hcl, fun H4 hS4 => ?_⟩
        walk_at "rd"
        have hlt : (nmL (fun h => hasB h (cs.map (·.1))) (es.take i)).length ≤ 100 := Nat.le_trans (nm_len _ _) (by rw [List.length_take]; have := hE.ln; omega)
        refine ite2' (fun e1 => ?_) (fun e1 => ?_)
        · walk_at "rd"
          refine ⟨_, hS4 _ _ hH, Nat.lt_of_le_of_lt (show _ ≤ 200 by rw [tv_len]; omega) (by decide), same_mut (hS.trans hS4) hB, ?_⟩
          rw [upd_same, nm_snoc he, if_pos e1, tv_app]
          rfl
        · refine ⟨hS.trans hS4, ?_⟩
          rw [nm_snoc he, if_neg (by rw [e1]; decide)]
          exact hS4 _ _ hH
      · obtain ⟨hS, hH⟩ := hP
        rw [List.length_map, List.take_of_length_le (Nat.le_refl _)] at hH
        refine ⟨hS _ _ hd3, ?_⟩
        walk_at "rd"
        have hHB : upd H' d (.dK (es.map enK)) B = some (.lst (tv (nmL (fun h => hasB h (cs.map (·.1))) es))) := by
          rw [upd_ne (fun z => by rw [z] at hB; rw [hd3] at hB; cases hB)]
          exact hH
        have hln : (nmL (fun h => hasB h (cs.map (·.1))) es).length < 64 := by have := nm_len (fun h => hasB h (cs.map (·.1))) es; have := hE.ln; omega
        rw [tv_eq] at hHB
        refine ⟨B, _, rfl, lst_of hHB, by rw [List.length_map]; exact hln, fun ys r hys hsr hr => ?_⟩
        obtain ⟨ks, rfl⟩ := strs_of ys
        have hSr := same_upd hr (o := .lst ((ks.map S).map V.str))
        walk_at "rd"
        refine tu_L (lst_of upd_same) fun l hl => ?_
        refine q ks l _ (((back H' hS).trans hSr).trans (same_upd hl)) ?_ (perm_S hys) hsr
        rw [upd_same, ← tv_eq]
def sp_changing_names (K : PySem.W.Frag) : Sp := fun vs H Q _ => ∃ (d : Addr) (es : List En) (v : V) (gs : List Pd), vs = [.ref d, v] ∧ H d = some (.dK (es.map enK)) ∧ EnOk K H es ∧ Dp K H v (.tuple (gs.map pdD)) ∧ gs.length ≤ 100 ∧
  ∀ ns p H', Same H H' → H' p = some (.tup (tv ns)) → ns.Perm (nmL (fun h => chgB h gs) es) → sortedS (ns.map S) = true → Q (.ref p) H'
theorem ok_changing_names (Y : Fx K mg) : FnOk P w K mg base CX0 3 Y.a_changing_names Y.fd_changing_names ["holds", "guards"] (sp_changing_names K) := by
  refine Y.F_changing_names.ok sc_changing_names (fun vs H Q E h => ?_) (fun cdv A outer s H vs Q E hr h => ?_)
  · obtain ⟨d, es, v, gs, rfl, _⟩ := h
    rfl
  · obtain ⟨d, es, v, gs, rfl, hd, hE, hv, hgl, q⟩ := h
    refine ⟨_, b_changing_names Y (ok_lies_in_any Y) hr, ?_⟩
    show t_changing_names K _ _ [some (.ref d), some v, none, none, none] H
    unfold t_changing_names
    walk_at "rd"
    refine x_lockE hd True.intro fun od => ?_
    have hE3 : EnOk K (upd H d (.frz od (.dK (es.map enK)))) es := hE.at fun x v hx h => dp_lock hd x v hx h
    have hv3 : Dp K (upd H d (.frz od (.dK (es.map enK)))) v (.tuple (gs.map pdD)) := dp_lock hd _ _ (tup_pds gs) hv
    have hd3 : upd H d (.frz od (.dK (es.map enK))) d = some (.frz od (.dK (es.map enK))) := upd_same
    have back : ∀ H', Same (upd H d (.frz od (.dK (es.map enK)))) H' → Same H (upd H' d (.dK (es.map enK))) := fun H' h => same_back hd h
    generalize hH3 : upd H d (.frz od (.dK (es.map enK))) = H3 at hE3 hv3 hd3 back ⊢
    refine lcK_mk (i := 0) (d := d) (o := od) rfl hd3 (fun B n H' => Same H3 H' ∧ H' B = some (.lst (tv (nmL (fun h => chgB h gs) (es.take n))))) (fun B hB => ⟨same_upd hB, upd_same⟩) (fun B n H' hB hP => hP.1 _ _ hd3) (fun B n k v' H' hB hi hP => ?_) (fun B H' hB hP => ?_)
    · obtain ⟨hS, hH⟩ := hP
      obtain ⟨e, he, rfl, rfl⟩ := en_at hi
      have hem := List.mem_of_getElem? he
      refine s_gn ?_
      refine ⟨rfl, ?_⟩
      show tTru1 _ _ [some (.ref d), some v, some (.str (S e.1)), none, none] H' _
      obtain ⟨t, u, v2, et, ht, hu, hv2⟩ := dp_tup2 (show Dp K H3 e.2.1 (.tuple [chsD e.2.2.1, .tuple (e.2.2.2.map pdD)]) from hE3.dp e hem)
      obtain ⟨pu, us, rfl, hpu, hau⟩ := dp_tup' hu
      have hul := dpAll_len hau
      rw [List.length_map] at hul
      have hsz := (hE.sz e hem).1
      walk_at "rd"
      refine ⟨d, e.2.1, rfl, .inl ⟨_, Sum.inr (S e.1), .inr ⟨od, hS _ _ hd3⟩, rfl, (en_val hE.nd hem).symm⟩, ?_⟩
      rw [et]
      walk_at "rd"
      refine ix_T (same_sqt hS ht) (by rfl) ?_
      refine lcT_mk (same_sqt hS hpu) (fun D m H2 => Same H' H2 ∧ H2 D = some (.lst ((e.2.2.1.take m).map fun c => V.bl (gs.any (liesG c.1))))) (fun D hD => ⟨same_upd hD, upd_same⟩) (fun D m H2 hD _ hP => same_sqt (hS.trans hP.1) hpu) (fun D m x H2 hD hxi hP => ?_) (fun D H2 hD hP => ?_)
      · obtain ⟨hS', hH'⟩ := hP
        obtain ⟨c, hc, hdc⟩ := all_at hau hxi
        have hi := (List.getElem?_eq_some_iff.mp hc).1
        obtain ⟨tc, rfl, htc⟩ := dp_ch hdc
        refine gt_T (same_sqt (hS.trans hS') htc) rfl ?_
        refine x_gc ?_
        refine s_gn ?_
        refine x_gc ?_
        refine s_gn ?_
        refine x_gz ?_
        refine ⟨rfl, ?_⟩
        show tYes [some (.ref d), some v, some (.str (S e.1)), some (.str (S c.1)), some (vlV c.2)] H2 _
        walk_at "rd"
        refine ⟨c.1, v, gs, rfl, dp_mono (hS.trans hS') _ _ hv3, hgl, fun H5 hS5 => ?_⟩
        refine ⟨_, hS5 _ _ hH', Nat.lt_of_le_of_lt (show _ ≤ 200 by rw [List.length_map, List.length_take]; omega) (by decide), same_mut (hS'.trans hS5) hD, ?_⟩
        rw [upd_same, bv_snoc hc]
      · obtain ⟨hS', hH'⟩ := hP
        rw [hul, List.take_of_length_le (Nat.le_refl _), show (e.2.2.1.map fun c => V.bl (gs.any (liesG c.1))) = (e.2.2.1.map fun c => gs.any (liesG c.1)).map V.bl by rw [List.map_map]; rfl] at hH'
        walk_at "rd"
        refine any_b (lst_of hH') ?_
        have e1 : (e.2.2.1.map fun c => gs.any (liesG c.1)).any id = chgB e.2.2 gs := by rw [List.any_map]; rfl
        rw [e1]
        walk_at "rd"
        have hlt : (nmL (fun h => chgB h gs) (es.take n)).length ≤ 100 := Nat.le_trans (nm_len _ _) (by rw [List.length_take]; have := hE.ln; omega)
        refine ite2' (fun e1 => ?_) (fun e1 => ?_)
        · walk_at "rd"
          refine ⟨_, hS' _ _ hH, Nat.lt_of_le_of_lt (show _ ≤ 200 by rw [tv_len]; omega) (by decide), same_mut (hS.trans hS') hB, ?_⟩
          rw [upd_same, nm_snoc he, if_pos e1, tv_app]
          rfl
        · refine ⟨hS.trans hS', ?_⟩
          rw [nm_snoc he, if_neg (by rw [e1]; decide)]
          exact hS' _ _ hH
    · obtain ⟨hS, hH⟩ := hP
      rw [List.length_map, List.take_of_length_le (Nat.le_refl _)] at hH
      refine ⟨hS _ _ hd3, ?_⟩
      walk_at "rd"
      have hHB : upd H' d (.dK (es.map enK)) B = some (.lst (tv (nmL (fun h => chgB h gs) es))) := by
        rw [upd_ne (fun z => by rw [z] at hB; rw [hd3] at hB; cases hB)]
        exact hH
      have hln : (nmL (fun h => chgB h gs) es).length < 64 := by have := nm_len (fun h => chgB h gs) es; have := hE.ln; omega
      rw [tv_eq] at hHB
      refine ⟨B, _, rfl, lst_of hHB, by rw [List.length_map]; exact hln, fun ys r hys hsr hr => ?_⟩
      obtain ⟨ks, rfl⟩ := strs_of ys
      have hSr := same_upd hr (o := .lst ((ks.map S).map V.str))
      walk_at "rd"
      refine tu_L (lst_of upd_same) fun l hl => ?_
      refine q ks l _ (((back H' hS).trans hSr).trans (same_upd hl)) ?_ (perm_S hys) hsr
      rw [upd_same, ← tv_eq]
end
end My

set_option Elab.async false
set_option linter.all false
set_option maxRecDepth 100000
set_option maxHeartbeats 1000000
namespace My
open PySem PySem.Spec PyProof.Rows L2
local macro_rules | `(tactic| walk_at "len") => `(tactic| first | assumption | omega | decide | (simp only [List.length_append, List.length_take, List.length_drop, List.length_cons, List.length_nil, List.length_replicate]; omega))
local macro_rules | `(tactic| walk_at "side") => `(tactic| first | assumption | exact Nat.zero_le _ | decide | omega)
local macro_rules | `(tactic| walk_at "rd1") => `(tactic| first
  | with_reducible refine s_seq ?_
  | with_reducible refine x_gsub ?_
  | with_reducible refine s_asg ?_
  | ((with_reducible refine s_gn ?_); dsimp only [List.set])
  | ((with_reducible refine x_var (v := ?rdv) ?rdhv ?_); (case rdhv => rfl))
  | with_reducible refine x_c ?_
  | with_reducible refine x_op ?_
  | with_reducible refine x_cons ?_
  | with_reducible refine x_nil ?_
  | with_reducible refine x_cb ?_
  | with_reducible refine x_call ?_
  | with_reducible refine x_callS ?_
  | with_reducible refine x_revT ?_
  | with_reducible refine x_dget ?_
  | with_reducible refine x_din ?_
  | with_reducible refine x_dnotin ?_
  | with_reducible refine s_dput ?_
  | with_reducible refine x_dnew ?_
  | with_reducible refine s_try ?_
  | with_reducible refine s_raise ?_
  | with_reducible refine s_if ?_
  | with_reducible refine s_ret ?_
  | with_reducible refine s_retN ?_
  | with_reducible refine s_next ?_
  | with_reducible refine s_brk ?_
  | with_reducible refine s_cont ?_
  | with_reducible refine s_drop ?_
  | with_reducible refine s_par ?_
  | with_reducible refine s_par3 ?_
  | ((with_reducible refine s_p2 ?_); dsimp only [List.set])
  | ((with_reducible refine s_p3 ?_); dsimp only [List.set])
  | with_reducible refine f_r1 ?_
  | with_reducible refine f_r2 ?_
  | with_reducible refine f_l ?_
  | with_reducible refine f_t ?_
  | with_reducible refine f_s ?_
  | with_reducible refine c_r1 ?_
  | with_reducible refine c_r2 ?_
  | with_reducible refine c_l ?_
  | with_reducible refine c_t ?_
  | with_reducible refine c_s ?_
  | with_reducible refine x_tst ?_
  | with_reducible refine x_tru ?_
  | with_reducible refine x_truB ?_
  | with_reducible refine x_bl2 ?_
  | with_reducible refine x_int ?_
  | with_reducible refine x_str ?_
  | with_reducible refine x_not ?_
  | with_reducible refine x_and ?_
  | with_reducible refine x_or ?_
  | with_reducible refine x_andV ?_
  | with_reducible refine x_orV ?_
  | with_reducible refine x_notV ?_
  | with_reducible refine x_if ?_
  | with_reducible refine x_yes ?_
  | with_reducible refine x_un ?_
  | with_reducible refine x_tup ?_
  | with_reducible refine x_lst ?_
  | with_reducible refine x_callK ?_
  | with_reducible refine x_callK0 ?_
  | with_reducible refine x_bm ?_
  | with_reducible refine x_bm0 ?_
  | with_reducible refine x_tyS ?_
  | with_reducible refine x_sl ?_
  | with_reducible refine x_nopart ?_
  | with_reducible refine x_part ?_
  | with_reducible refine x_fmt0 ?_
  | with_reducible refine x_gc ?_
  | with_reducible refine x_gz ?_
  | with_reducible refine x_ckw ?_
  | with_reducible refine x_fmt ?_
  | with_reducible refine x_chain ?_
  | with_reducible refine a_ii ?_
  | ((with_reducible refine sl_to ?rda ?rdb ?_); (case rda => walk_at "len"); (case rdb => walk_at "len"))
  | ((with_reducible refine sl_from ?rda ?rdb ?_); (case rda => walk_at "len"); (case rdb => walk_at "len"))
  | ((with_reducible refine sl_mid ?rda ?rdb ?rdc ?_); (case rda => walk_at "len"); (case rdb => walk_at "len"); (case rdc => walk_at "len"))
  | ((with_reducible refine a_SS ?rda ?_); (case rda => walk_at "len"))
  | ((with_reducible refine ln_S ?rda ?_); (case rda => walk_at "len"))
  | with_reducible refine e_SS ?_
  | with_reducible refine ne_SS ?_
  | with_reducible refine s_ii ?_
  | ((with_reducible refine md_ii ?rdc ?_); (case rdc => first | decide | assumption | omega))
  | with_reducible refine n_i ?_
  | with_reducible refine e_ii ?_
  | with_reducible refine e_bb ?_
  | with_reducible refine ne_ii ?_
  | with_reducible refine ne_bb ?_
  | with_reducible refine lt_ii ?_
  | with_reducible refine lt_ss ?_
  | with_reducible refine le_ii ?_
  | with_reducible refine le_ss ?_
  | with_reducible refine gt_ii ?_
  | with_reducible refine gt_ss ?_
  | with_reducible refine ge_ii ?_
  | with_reducible refine e_ss ?_
  | with_reducible refine ne_ss ?_
  | with_reducible refine is_N ?_
  | with_reducible refine is_T ?_
  | with_reducible refine is_B ?_
  | with_reducible refine isn_N ?_
  | with_reducible refine isn_T ?_
  | with_reducible refine isn_B ?_
  | with_reducible refine in_s ?_
  | with_reducible refine nin_s ?_
  | with_reducible refine i_i ?_
  | with_reducible refine i_b ?_
  | with_reducible refine ab_i ?_
  | with_reducible refine mx_ii ?_
  | with_reducible refine mn_ii ?_
  | with_reducible refine ty_N ?_
  | with_reducible refine ty_B ?_
  | with_reducible refine ty_I ?_
  | with_reducible refine ty_S ?_
  | with_reducible refine ma_s ?_
  | with_reducible refine mp_s ?_
  | with_reducible refine mdg_s ?_
  | with_reducible refine mf_s ?_
  | with_reducible refine iteT ?_
  | with_reducible refine iteF ?_
  | with_reducible refine iteNt ?_
  | with_reducible refine iteNf ?_
  | with_reducible refine iteTd (by decide) ?_
  | with_reducible refine iteFd (by decide) ?_
  | with_reducible refine iteNd (by decide) ?_
  | with_reducible refine iteNdF (by decide) ?_
  | ((with_reducible refine iteFd ?rdn ?_); (case rdn => (intro rdz; cases rdz; done)))
  | ((with_reducible refine iteNdF ?rdn ?_); (case rdn => (intro rdz; cases rdz; done))))
local macro_rules | `(tactic| walk_at "rd") => `(tactic| (repeat walk_at "rd1"))
section
variable {P : Program} {w : World} {K : PySem.W.Frag} {mg : Str → Option Value} {base : Heap}
def keyLs : List (List Nat) := [[97], [97, 98], [98], [98, 97], [99], []]
theorem key_ok : ∀ l ∈ keyLs, isT l = true ∧ l.length ≤ 2 := by decide
theorem tv_at {ls : List (List Nat)} {n : Nat} (h : n < ls.length) : ∃ l, ls[n]? = some l ∧ l ∈ ls ∧ (tv ls)[n]? = some (.str (S l)) := by
  refine ⟨ls[n], List.getElem?_eq_getElem h, List.getElem_mem h, ?_⟩
  unfold tv
  rw [List.getElem?_map, List.getElem?_eq_getElem h]
  rfl
/-- a drawn one of some texts -/
theorem ix_tv {H : Hp} {Q : VK} {p : Addr} {ls : List (List Nat)} {i : Int} (hp : SqL K H p (tv ls)) (h0 : 0 ≤ i) (h1 : i < (ls.length : Int)) (q : ∀ l, l ∈ ls → Q (.str (S l)) H) : rIX K (.ref p) (.int i) H Q := by
  obtain ⟨l, _, hl, e⟩ := tv_at (ls := ls) (n := i.toNat) (by omega)
  obtain ⟨n, rfl⟩ : ∃ n : Nat, i = n := ⟨i.toNat, by omega⟩
  exact ix_L hp (atI_nat e) (q l hl)
def sp__law_key (K : PySem.W.Frag) : Sp := fun vs H Q _ => ∃ j : Addr, vs = [.ref j] ∧ JarAt H j ∧ ∀ l H', isT l = true → l.length ≤ 2 → JarAt H' j → Fr j H H' → Q (.str (S l)) H'
theorem ok__law_key (Y : Fx K mg) : FnOk P w K mg base CX0 2 Y.a__law_key Y.fd__law_key ["_law_well_here"] (sp__law_key K) := by
  refine Y.F__law_key.ok sc__law_key (fun vs H Q E h => ?_) (fun cdv A outer st H vs Q E hr h => ?_)
  · obtain ⟨j, rfl, _⟩ := h
    rfl
  · obtain ⟨j, rfl, hJ, q⟩ := h
    refine ⟨_, b__law_key Y (ok__law_draw Y) hr, ?_⟩
    show t__law_key K _ _ [some (.ref j)] H
    unfold t__law_key
    walk_at "rd"
    refine ⟨by show 6 ≤ sizeLine; decide, fun u hu => ?_⟩
    have E1 : upd H u (.lst [V.str "a", .str "ab", .str "b", .str "ba", .str "c", .str ""]) u = some (.lst (tv keyLs)) := upd_same
    have hF1 : Fr j H (upd H u (.lst [V.str "a", .str "ab", .str "b", .str "ba", .str "c", .str ""])) := (Frm.refl H).new hu
    have hJ1 := hJ.new hu (o := .lst [V.str "a", .str "ab", .str "b", .str "ba", .str "c", .str ""])
    have ou := hJ.off hu
    generalize upd H u (.lst [V.str "a", .str "ab", .str "b", .str "ba", .str "c", .str ""]) = H1 at E1 hF1 hJ1 ⊢
    walk_at "rd"
    refine ⟨j, 6, rfl, hJ1, by decide, by decide, fun r H2 r0 r1 hJ2 hF2 => ?_⟩
    refine ix_tv (lst_of (hF2 _ _ ou ou E1)) r0 (by show r < 6; exact r1) fun l hl => ?_
    exact q l H2 (key_ok l hl).1 (key_ok l hl).2 hJ2 (hF1.trans hF2)
def sp__law_changes (K : PySem.W.Frag) : Sp := fun vs H Q _ => ∃ (j : Addr) (lo hi : Nat), vs = [.ref j, .int lo, .int hi] ∧ lo ≤ hi ∧ hi ≤ 10 ∧ JarAt H j ∧ ∀ p us cs H', JarAt H' j → Fr j H H' → H' p = some (.tup us) → ChV H' us cs → GoodC cs → cs.length ≤ hi → Q (.ref p) H'
theorem ok__law_changes (Y : Fx K mg) : FnOk P w K mg base CX0 3 Y.a__law_changes Y.fd__law_changes ["_law_well_here", "_law_least", "_law_most"] (sp__law_changes K) := by
  refine Y.F__law_changes.ok sc__law_changes (fun vs H Q E h => ?_) (fun cdv A outer st H vs Q E hr h => ?_)
  · obtain ⟨j, lo, hi, rfl, _⟩ := h
    rfl
  · obtain ⟨j, lo, hi, rfl, hlh, hh, hJ, q⟩ := h
    refine ⟨_, b__law_changes Y (ok__law_draw Y) (ok__law_key Y) hr, ?_⟩
    show t__law_changes K _ _ _ [some (.ref j), some (.int lo), some (.int hi), none, none, none] H
    unfold t__law_changes
    rw [show ("" : Str) = S [] from rfl, show ("x" : Str) = S [120] from rfl]
    walk_at "rd"
    refine fun d hd => ?_
    have od := hJ.off hd
    have hJ1 := hJ.new hd (o := .dK [])
    have hF1 : Fr j H (upd H d (.dK [])) := (Frm.refl H).new hd
    have hH1 : upd H d (.dK []) d = some (.dK (([] : List Ch).map kvD)) := upd_same
    generalize upd H d (.dK []) = H1 at hJ1 hF1 hH1
    refine s_gn ?_
    show tSeq _ _ _ [some (.ref j), some (.int lo), some (.int hi), some (.ref d), none, none] H1
    walk_at "rd"
    refine ⟨j, (hi : Int) - lo + 1, rfl, hJ1, by omega, by omega, fun m H4 m0 m1 hJ4 hF4 => ?_⟩
    walk_at "rd"
    refine for1_mk (by omega) (by omega) (fun i σ H' => ∃ (cs : List Ch) (y4 y5 : Option V), σ = [some (.ref j), some (.int lo), some (.int hi), some (.ref d), y4, y5] ∧ JarAt H' j ∧ Fr j H H' ∧ H' d = some (.dK (cs.map kvD)) ∧ RwOk cs ∧ cs.length ≤ i)
      ⟨[], _, _, rfl, hJ4, hF1.trans hF4, hF4 d _ od od hH1, RwOk.nil, Nat.zero_le _⟩ (fun i σ H5 hi' hV => ?_) (fun σ H5 hV => ?_)
    · obtain ⟨cs, y4, y5, rfl, hJ5, hF5, hd5, hok, hci⟩ := hV
      walk_at "rd"
      refine ⟨by show 3 ≤ sizeLine; decide, fun x hx => ?_⟩
      have S3 := same_upd hx (o := .lst [V.non, .str (S [120]), .str (S [])])
      have ox := hJ5.off hx
      have E3 : upd H5 x (.lst [V.non, .str (S [120]), .str (S [])]) x = some (.lst [V.non, .str (S [120]), .str (S [])]) := upd_same
      have hJ10 := hJ5.same S3
      have hF10 := hF5.trans (Frm.of S3)
      have hd10 := S3 _ _ hd5
      generalize upd H5 x (.lst [V.non, .str (S [120]), .str (S [])]) = H10 at E3 hJ10 hF10 hd10 ⊢
      walk_at "rd"
      refine ⟨j, 3, rfl, hJ10, by decide, by decide, fun r H11 r0 r1 hJ11 hF11 => ?_⟩
      obtain ⟨n3, rfl, hn3⟩ : ∃ n : Nat, r = n ∧ n < 3 := ⟨r.toNat, by omega, by omega⟩
      obtain ⟨vv, ev, tv'⟩ : ∃ vv : Option (List Nat), [V.non, .str (S [120]), .str (S [])][n3]? = some (vlV vv) ∧ ∀ z, vv = some z → isT z = true ∧ z.length ≤ 1000 := by
        match n3, hn3 with
        | 0, _ => exact ⟨none, rfl, fun z e => by cases e⟩
        | 1, _ => exact ⟨some [120], rfl, fun z e => by cases e; exact ⟨by decide, by decide⟩⟩
        | 2, _ => exact ⟨some [], rfl, fun z e => by cases e; exact ⟨rfl, by decide⟩⟩
        | n + 3, h => omega
      refine ix_L (lst_of (hF11 _ _ ox ox E3)) (atI_nat ev) ?_
      have hd11 := hF11 d _ od od hd10
      have hF011 := hF10.trans hF11
      walk_at "rd"
      refine ⟨j, rfl, hJ11, fun key H12 keyT keyL hJ12 hF12 => ?_⟩
      have hd12 := hF12 d _ od od hd11
      have hT : TxC (key, vv) := ⟨⟨keyT, Nat.le_trans keyL (by decide)⟩, tv'⟩
      refine ⟨d, _, rfl, .inl ⟨_, Sum.inr (S key), hd12, rfl, Nat.lt_of_le_of_lt (show _ ≤ 100 by rw [List.length_map]; omega) (by decide), rfl⟩, putL cs key vv, _, _, rfl, hJ12.keep od, Fr.cut (hF011.trans hF12) (Frm.refl H) hd, ?_, putL_ok hok hT, Nat.le_trans (putL_len cs key vv) (by omega)⟩
      rw [upd_same, put_L]
    · obtain ⟨cs, y4, y5, rfl, hJ3, hF3, hd3, hok, hci⟩ := hV
      have hcn : cs.length ≤ hi := by omega
      walk_at "rd"
      refine ⟨d, _, cs.map fun c => S c.1, rfl, .inl hd3, by rw [List.map_map, List.map_map]; rfl, by rw [List.length_map]; omega, fun ys p hys hsr hp => ?_⟩
      have hSp := same_upd hp (o := .lst (ys.map V.str))
      obtain ⟨ks, rfl⟩ := strs_of ys
      have hpk : ks.Perm (cs.map (·.1)) := perm_S (by rw [List.map_map]; exact hys)
      have hkl : ks.length = cs.length := by
        have := hpk.length_eq
        rw [List.length_map] at this
        exact this
      refine lcL_mk (lst_of (upd_same (H := H5) (a := p))) (fun D i H' => Same (upd H5 p (.lst ((ks.map S).map V.str))) H' ∧ ∃ us, H' D = some (.lst us) ∧ ChV H' us ((ks.take i).map fun k => (k, valL cs k)) ∧ i ≤ ks.length) (fun D hD => ⟨same_upd hD, [], upd_same, ChV.nil, Nat.zero_le _⟩) (fun D i H' hD hi hP => lst_of (hP.1 _ _ upd_same)) (fun D i x H' hD hx hP => ?_) (fun D H' hD hP => ?_)
      · obtain ⟨hS, us, hDu, hV, hil⟩ := hP
        rw [List.map_map, List.getElem?_map] at hx
        cases hki : ks[i]? with
        | none => rw [hki] at hx; cases hx
        | some k =>
          rw [hki] at hx
          cases hx
          have hkm : k ∈ cs.map (·.1) := hpk.mem_iff.mp (List.mem_of_getElem? hki)
          obtain ⟨hval, _⟩ := val_L hok hkm
          have hdd := hS _ _ (hSp _ _ hd3)
          refine ⟨rfl, ?_⟩
          walk_at "rd"
          refine ⟨d, vlV (valL cs k), rfl, .inl ⟨_, Sum.inr (S k), .inl hdd, rfl, hval.symm⟩, ?_⟩
          walk_at "rd"
          refine ⟨by show 2 ≤ sizeLine; decide, fun t ht => ?_⟩
          have hSt := same_upd ht (o := .tup [V.str (S k), vlV (valL cs k)])
          have oDt : D ≠ t := by
            rintro rfl
            rw [hDu] at ht
            cases ht
          have hus := hV.1
          rw [List.length_map, List.length_take] at hus
          refine ⟨us, hSt _ _ hDu, Nat.lt_of_le_of_lt (show _ ≤ 100 by omega) (by decide), same_mut (hS.trans hSt) hD, us ++ [.ref t], by rw [upd_same], ?_, ?_⟩
          · rw [take_snoc hki, List.map_append]
            exact ((hV.mono hSt).mut (hSt _ _ hDu)).snoc (by rw [upd_ne (Ne.symm oDt)]; exact upd_same)
          · have := (List.getElem?_eq_some_iff.mp hki).1
            omega
      · obtain ⟨hS, us, hDu, hV, _⟩ := hP
        rw [List.length_map, List.length_map, List.take_of_length_le (Nat.le_refl _)] at hV
        walk_at "rd"
        refine tu_L (lst_of hDu) fun l hl => ?_
        have hSl := same_upd hl (o := .tup us)
        have hSS := (hSp.trans hS).trans hSl
        refine q l us _ _ (hJ3.same hSS) ?_ upd_same (hV.mono hSl) (good_rows hok hpk hsr) (by rw [List.length_map]; omega)
        exact fun a o h1 h2 h3 => hSS _ _ (hF3 a o h1 h2 h3)
theorem PdV.fr {j : Addr} {H H' : Hp} {us : List V} {cs : List Pd} (hJ : JarAt H j) (e : Fr j H H') (h : PdV H us cs) : PdV H' us cs := ⟨h.1, fun i o hi => by
  obtain ⟨v, a, b⟩ := h.2 i o hi
  have ne : v ≠ j := by
    rintro rfl
    obtain ⟨x, y, t, hj, _⟩ := hJ
    rw [hj] at b
    cases b
  exact ⟨v, a, e _ _ ne ne b⟩⟩
def ShG (g : Pd) : Prop := ∀ l, (g.1 = some l ∨ g.2 = some l) → isT l = true ∧ l.length ≤ 10
def sp__law_guards (K : PySem.W.Frag) : Sp := fun vs H Q _ => ∃ (j : Addr) (hi : Nat), vs = [.ref j, .int hi] ∧ hi ≤ 10 ∧ JarAt H j ∧ ∀ p us gs H', JarAt H' j → Fr j H H' → H' p = some (.tup us) → PdV H' us gs → (∀ g ∈ gs, ShG g) → gs.length ≤ hi → Q (.ref p) H'
theorem ok__law_guards (Y : Fx K mg) : FnOk P w K mg base CX0 3 Y.a__law_guards Y.fd__law_guards ["_law_well_here", "_law_most"] (sp__law_guards K) := by
  refine Y.F__law_guards.ok sc__law_guards (fun vs H Q E h => ?_) (fun cdv A outer st H vs Q E hr h => ?_)
  · obtain ⟨j, hi, rfl, _⟩ := h
    rfl
  · obtain ⟨j, hi, rfl, hh, hJ, q⟩ := h
    refine ⟨_, b__law_guards Y (ok__law_draw Y) (ok__law_key Y) hr, ?_⟩
    show t__law_guards K _ _ _ [some (.ref j), some (.int hi), none, none, none, none] H
    unfold t__law_guards
    walk_at "rd"
    refine ⟨Nat.zero_le _, fun D hD => ?_⟩
    have oD := hJ.off hD
    have hJ1 := hJ.new hD (o := .lst [])
    have hF1 : Fr j H (upd H D (.lst [])) := (Frm.refl H).new hD
    have hD1 : upd H D (.lst []) D = some (.lst []) := upd_same
    generalize upd H D (.lst []) = H1 at hJ1 hF1 hD1
    walk_at "rd"
    refine ⟨j, (hi : Int) + 1, rfl, hJ1, by omega, by omega, fun m H2 m0 m1 hJ2 hF2 => ?_⟩
    refine for1_mk (by omega) (by omega) (fun i σ H' => ∃ y3 y4 y5 : Option V, σ = [some (.ref j), some (.int hi), some (.ref D), y3, y4, y5] ∧ JarAt H' j ∧ Fr j H H' ∧ ∃ us gs, H' D = some (.lst us) ∧ PdV H' us gs ∧ (∀ g ∈ gs, ShG g) ∧ gs.length ≤ i)
      ⟨_, _, _, rfl, hJ2, hF1.trans hF2, [], [], hF2 D _ oD oD hD1, PdV.nil, (fun _ h => by cases h), Nat.zero_le _⟩ (fun i σ H3 hi3 hV => ?_) (fun σ H3 hV => ?_)
    · obtain ⟨y3, y4, y5, rfl, hJ3, hF3, us, gs, hus, hPd, hok, hgl⟩ := hV
      walk_at "rd"
      refine ⟨j, rfl, hJ3, fun lo H4 lo2 lo1 hJ4 hF4 => ?_⟩
      walk_at "rd"
      refine ⟨j, rfl, hJ4, fun hi' H5 hi2 hi1 hJ5 hF5 => ?_⟩
      have hF05 := (hF3.trans hF4).trans hF5
      have hus5 := hF5 D _ oD oD (hF4 D _ oD oD hus)
      have hP5 := (hPd.fr hJ3 hF4).fr hJ4 hF5
      walk_at "rd"
      refine x_tyL (lst_of hus5) ?_
      walk_at "rd"
      refine ⟨by show 2 ≤ sizeLine; decide, fun t1 q1 => ?_⟩
      have S1 := same_upd q1 (o := .tup [V.str (S lo), .str (S hi')])
      have E1 : upd H5 t1 (.tup [V.str (S lo), .str (S hi')]) t1 = some (.tup [V.str (S lo), .str (S hi')]) := upd_same
      generalize upd H5 t1 (.tup [V.str (S lo), .str (S hi')]) = G1 at S1 E1 ⊢
      walk_at "rd"
      refine ⟨by show 2 ≤ sizeLine; decide, fun t2 q2 => ?_⟩
      have S2 := same_upd q2 (o := .tup [V.non, .str (S hi')])
      have E2 : upd G1 t2 (.tup [V.non, .str (S hi')]) t2 = some (.tup [V.non, .str (S hi')]) := upd_same
      generalize upd G1 t2 (.tup [V.non, .str (S hi')]) = G2 at S2 E2 ⊢
      walk_at "rd"
      refine ⟨by show 2 ≤ sizeLine; decide, fun t3 q3 => ?_⟩
      have S3 := same_upd q3 (o := .tup [V.str (S lo), .non])
      have E3 : upd G2 t3 (.tup [V.str (S lo), .non]) t3 = some (.tup [V.str (S lo), .non]) := upd_same
      generalize upd G2 t3 (.tup [V.str (S lo), .non]) = G3 at S3 E3 ⊢
      walk_at "rd"
      refine ⟨by show 2 ≤ sizeLine; decide, fun t4 q4 => ?_⟩
      have S4 := same_upd q4 (o := .tup [V.non, .non])
      have E4 : upd G3 t4 (.tup [V.non, .non]) t4 = some (.tup [V.non, .non]) := upd_same
      generalize upd G3 t4 (.tup [V.non, .non]) = G4 at S4 E4 ⊢
      walk_at "rd"
      refine ⟨by show 4 ≤ sizeLine; decide, fun u q5 => ?_⟩
      have S5 := same_upd q5 (o := .lst [V.ref t1, .ref t2, .ref t3, .ref t4])
      have E5 : upd G4 u (.lst [V.ref t1, .ref t2, .ref t3, .ref t4]) u = some (.lst [V.ref t1, .ref t2, .ref t3, .ref t4]) := upd_same
      have S45 : Same H5 (upd G4 u (.lst [V.ref t1, .ref t2, .ref t3, .ref t4])) := (((S1.trans S2).trans S3).trans S4).trans S5
      have ou := (hJ5.same (((S1.trans S2).trans S3).trans S4)).off q5
      have A1 := S5 _ _ (S4 _ _ (S3 _ _ (S2 _ _ E1)))
      have A2 := S5 _ _ (S4 _ _ (S3 _ _ E2))
      have A3 := S5 _ _ (S4 _ _ E3)
      have A4 := S5 _ _ E4
      generalize upd G4 u (.lst [V.ref t1, .ref t2, .ref t3, .ref t4]) = G5 at E5 S45 A1 A2 A3 A4 ⊢
      have hJ6 := hJ5.same S45
      walk_at "rd"
      refine ⟨by show 5 ≤ sizeLine; decide, fun u2 q6 => ?_⟩
      have S6 := same_upd q6 (o := .lst [V.int 0, .int 0, .int 1, .int 2, .int 3])
      have E6 : upd G5 u2 (.lst [V.int 0, .int 0, .int 1, .int 2, .int 3]) u2 = some (.lst [V.int 0, .int 0, .int 1, .int 2, .int 3]) := upd_same
      have ou2 := hJ6.off q6
      generalize upd G5 u2 (.lst [V.int 0, .int 0, .int 1, .int 2, .int 3]) = G6 at S6 E6 ⊢
      have hJ7 := hJ6.same S6
      walk_at "rd"
      refine ⟨j, 5, rfl, hJ7, by decide, by decide, fun r G7 r0 r1 hJ8 hF8 => ?_⟩
      obtain ⟨n5, rfl, hn5⟩ : ∃ n : Nat, r = n ∧ n < 5 := ⟨r.toNat, by omega, by omega⟩
      obtain ⟨n, en, hn⟩ : ∃ n : Nat, [V.int 0, .int 0, .int 1, .int 2, .int 3][n5]? = some (.int n) ∧ n < 4 := by
        match n5, hn5 with
        | 0, _ => exact ⟨0, rfl, by decide⟩
        | 1, _ => exact ⟨0, rfl, by decide⟩
        | 2, _ => exact ⟨1, rfl, by decide⟩
        | 3, _ => exact ⟨2, rfl, by decide⟩
        | 4, _ => exact ⟨3, rfl, by decide⟩
        | n + 5, h => omega
      refine ix_L (lst_of (hF8 _ _ ou2 ou2 E6)) (atI_nat en) ?_
      have sh : ∀ x y : Bd, (x = none ∨ x = some lo) → (y = none ∨ y = some hi') → ShG (x, y) := by
        intro x y hx hy l hl
        rcases hl with hl | hl
        · rcases hx with rfl | rfl
          · cases hl
          · cases hl; exact ⟨lo2, by omega⟩
        · rcases hy with rfl | rfl
          · cases hl
          · cases hl; exact ⟨hi2, by omega⟩
      obtain ⟨t, g, et, Et, okg⟩ : ∃ (t : Addr) (g : Pd), [V.ref t1, .ref t2, .ref t3, .ref t4][n]? = some (.ref t) ∧ G5 t = some (.tup [vlV g.1, vlV g.2]) ∧ ShG g := by
        match n, hn with
        | 0, _ => exact ⟨t1, (some lo, some hi'), rfl, A1, sh _ _ (.inr rfl) (.inr rfl)⟩
        | 1, _ => exact ⟨t2, (none, some hi'), rfl, A2, sh _ _ (.inl rfl) (.inr rfl)⟩
        | 2, _ => exact ⟨t3, (some lo, none), rfl, A3, sh _ _ (.inr rfl) (.inl rfl)⟩
        | 3, _ => exact ⟨t4, (none, none), rfl, A4, sh _ _ (.inl rfl) (.inl rfl)⟩
        | n + 4, h => omega
      refine ix_L (lst_of (hF8 _ _ ou ou (S6 _ _ E5))) (atI_nat et) ?_
      have ot : t ≠ j := by
        rintro rfl
        obtain ⟨x, y, z, hj, _⟩ := hJ6
        rw [hj] at Et
        cases Et
      have hus7 := hF8 D _ oD oD (S6 _ _ (S45 _ _ hus5))
      have hP7 := (hP5.mono (S45.trans S6)).fr hJ7 hF8
      have hFF : Fr j H G7 := (hF05.trans (Frm.of (S45.trans S6))).trans hF8
      walk_at "rd"
      refine ap_L hus7 (by rw [hPd.1]; omega) ?_
      refine ⟨_, _, _, rfl, hJ8.keep oD, Fr.cut hFF (Frm.refl H) hD, us ++ [.ref t], gs ++ [g], upd_same, (hP7.mut hus7).snoc ?_, fun e he => ?_, by rw [List.length_append]; show gs.length + 1 ≤ i + 1; omega⟩
      · rw [upd_ne]
        · exact hF8 _ _ ot ot (S6 _ _ Et)
        · rintro rfl
          rw [S45 _ _ hus5] at Et
          cases Et
      · rcases List.mem_append.mp he with h | h
        · exact hok e h
        · rw [List.mem_singleton.mp h]; exact okg
    · obtain ⟨y3, y4, y5, rfl, hJ3, hF3, us, gs, hus, hPd, hok, hgl⟩ := hV
      walk_at "rd"
      refine tu_L (lst_of hus) fun p hp => ?_
      have hSp := same_upd hp (o := .tup us)
      exact q p us gs _ (hJ3.new hp) (hF3.new hp) upd_same (hPd.mono hSp) hok (by omega)
def sp__law_lies (K : PySem.W.Frag) : Sp := fun vs H Q _ => ∃ (k : List Nat) (x : V) (gs : List Pd), vs = [.str (S k), x] ∧ Dp K H x (.tuple (gs.map pdD)) ∧ Q (.bl (gs.any (liesG k))) H
theorem ok__law_lies (Y : Fx K mg) : FnOk P w K mg base CX0 1 Y.a__law_lies Y.fd__law_lies ["_law_key_here", "_law_guards_here"] (sp__law_lies K) := by
  refine Y.F__law_lies.ok sc__law_lies (fun vs H Q E h => ?_) (fun cdv A outer s H vs Q E hr h => ?_)
  · obtain ⟨k, x, gs, rfl, _⟩ := h
    rfl
  · obtain ⟨k, x, gs, rfl, hx, q⟩ := h
    refine ⟨_, b__law_lies Y hr, ?_⟩
    obtain ⟨p, us, rfl, hp, ha⟩ := dp_tup' hx
    show t__law_lies K _ [some (.str (S k)), some (.ref p), none, none] H
    unfold t__law_lies
    have hul := dpAll_len ha
    rw [List.length_map] at hul
    walk_at "rd"
    refine forT_mk hp (fun i σ H' => ∃ y2 y3 : Option V, σ = [some (.str (S k)), some (.ref p), y2, y3] ∧ H' = H ∧ gs.any (liesG k) = (gs.drop i).any (liesG k)) ⟨_, _, rfl, rfl, rfl⟩ (fun i σ H' _ hV => by obtain ⟨_, _, _, rfl, _⟩ := hV; exact hp) (fun i x σ H' hxi hV => ?_) (fun σ H' hV => ?_)
    · obtain ⟨y2, y3, rfl, rfl, hg⟩ := hV
      obtain ⟨g, hgi, hdg⟩ := all_pd ha hxi
      have hi := (List.getElem?_eq_some_iff.mp hgi).1
      obtain ⟨t, rfl, ht⟩ := dp_pd hdg
      have hdr : gs.drop i = g :: gs.drop (i + 1) := by
        rw [List.drop_eq_getElem_cons hi]
        rw [List.getElem?_eq_getElem hi] at hgi
        rw [Option.some.inj hgi]
      rw [hdr, List.any_cons] at hg
      have next : liesG k g = false → ∃ y2 y3 : Option V, [some (.str (S k)), some (.ref p), some (vlV g.1), some (vlV g.2)] = [some (.str (S k)), some (.ref p), y2, y3] ∧ H' = H' ∧ gs.any (liesG k) = (gs.drop (i + 1)).any (liesG k) := fun e => ⟨_, _, rfl, rfl, by rw [hg, e, Bool.false_or]⟩
      have yes : liesG k g = true → Q (.bl true) H' := fun e => by
        rw [hg, e, Bool.true_or] at q
        exact q
      refine gt_T ht rfl ?_
      refine x_gc ?_
      refine s_gn ?_
      refine x_gc ?_
      refine s_gn ?_
      refine x_gz ?_
      obtain ⟨lo, hi'⟩ := g
      show tIfS _ _ _ _ [some (.str (S k)), some (.ref p), some (vlV lo), some (vlV hi')] H'
      have next' : (loB lo k && hiB hi' k) = false → _ := next
      have yes' : (loB lo k && hiB hi' k) = true → _ := yes
      clear next yes hg
      cases lo with
      | none =>
        show tIfS _ _ _ _ [some (.str (S k)), some (.ref p), some .non, some (vlV hi')] H'
        cases hi' with
        | none =>
          show tIfS _ _ _ _ [some (.str (S k)), some (.ref p), some .non, some .non] H'
          walk_at "rd"
          exact yes' rfl
        | some h =>
          show tIfS _ _ _ _ [some (.str (S k)), some (.ref p), some .non, some (.str (S h))] H'
          walk_at "rd"
          rw [S_cps, S_cps]
          refine ite2' (fun e => ?_) (fun e => ?_)
          · walk_at "rd"
            exact yes' e
          · exact next' e
      | some l =>
        show tIfS _ _ _ _ [some (.str (S k)), some (.ref p), some (.str (S l)), some (vlV hi')] H'
        have next2 : ((!decide (k < l)) && hiB hi' k) = false → _ := next'
        have yes2 : ((!decide (k < l)) && hiB hi' k) = true → _ := yes'
        cases hi' with
        | none =>
          show tIfS _ _ _ _ [some (.str (S k)), some (.ref p), some (.str (S l)), some .non] H'
          walk_at "rd"
          rw [S_cps, S_cps]
          refine ite2' (fun e => ?_) (fun e => ?_)
          · walk_at "rd"
            exact yes2 (by rw [e]; rfl)
          · walk_at "rd"
            exact next2 (by rw [e]; rfl)
        | some h =>
          show tIfS _ _ _ _ [some (.str (S k)), some (.ref p), some (.str (S l)), some (.str (S h))] H'
          walk_at "rd"
          rw [S_cps, S_cps]
          refine ite2' (fun e => ?_) (fun e => ?_)
          · rw [e] at next2 yes2
            walk_at "rd"
            rw [S_cps, S_cps]
            refine ite2' (fun e => ?_) (fun e => ?_)
            · walk_at "rd"
              exact yes2 (by rw [Bool.true_and]; exact e)
            · exact next2 (by rw [Bool.true_and]; exact e)
          · walk_at "rd"
            exact next2 (by rw [e]; rfl)
    · obtain ⟨y2, y3, rfl, rfl, hg⟩ := hV
      rw [hul, List.drop_length] at hg
      rw [hg] at q
      walk_at "rd"
      exact q
def sp__law_is_refused (K : PySem.W.Frag) : Sp := fun vs H Q _ => ∃ (d : Addr) (es : List En) (v : V) (D : PyData), vs = [.ref d, v] ∧ H d = some (.dK (es.map enK)) ∧ EnOk K H es ∧ Dp K H v D ∧ (∀ ds, D = .tuple ds → ds.length ≤ 100000) ∧ isChsD D = false ∧ ∀ H', Same H H' → Q (.bl true) H'
theorem ok__law_is_refused (Y : Fx K mg) : FnOk P w K mg base CX0 6 Y.a__law_is_refused Y.fd__law_is_refused ["_law_holds", "_law_changes_here"] (sp__law_is_refused K) := by
  refine Y.F__law_is_refused.ok sc__law_is_refused (fun vs H Q E h => ?_) (fun cdv A outer st H vs Q E hr h => ?_)
  · obtain ⟨d, es, v, D, rfl, _⟩ := h
    rfl
  · obtain ⟨d, es, v, D, rfl, hd, hE, hv, hl, hD, q⟩ := h
    refine ⟨_, b__law_is_refused Y (ok_held_names Y) hr, ?_⟩
    show t__law_is_refused K Y _ _ [some (.ref d), some v] H
    unfold t__law_is_refused
    walk_at "rd"
    refine ⟨d, es, v, D, rfl, hd, hE, hv, hl, fun hc => ?_, fun _ H' hS => ?_⟩
    · rw [hD] at hc
      cases hc
    · refine w_hit Y.m_InvalidChanges_InvalidChanges fun a _ => ?_
      walk_at "rd"
      exact q H' hS
end
end My

set_option Elab.async false
set_option linter.all false
set_option maxRecDepth 100000
set_option maxHeartbeats 1000000
namespace My
open PySem PySem.Spec PyProof.Rows L2
local macro_rules | `(tactic| walk_at "len") => `(tactic| first | assumption | omega | decide | (simp only [List.length_append, List.length_take, List.length_drop, List.length_cons, List.length_nil, List.length_replicate]; omega))
local macro_rules | `(tactic| walk_at "side") => `(tactic| first | assumption | exact Nat.zero_le _ | decide | omega)
local macro_rules | `(tactic| walk_at "rd1") => `(tactic| first
  | with_reducible refine s_seq ?_
  | with_reducible refine x_gsub ?_
  | with_reducible refine s_asg ?_
  | ((with_reducible refine s_gn ?_); dsimp only [List.set])
  | ((with_reducible refine x_var (v := ?rdv) ?rdhv ?_); (case rdhv => rfl))
  | with_reducible refine x_c ?_
  | with_reducible refine x_op ?_
  | with_reducible refine x_cons ?_
  | with_reducible refine x_nil ?_
  | with_reducible refine x_cb ?_
  | with_reducible refine x_call ?_
  | with_reducible refine x_callS ?_
  | with_reducible refine x_revT ?_
  | with_reducible refine x_dget ?_
  | with_reducible refine x_din ?_
  | with_reducible refine x_dnotin ?_
  | with_reducible refine s_dput ?_
  | with_reducible refine x_dnew ?_
  | with_reducible refine s_try ?_
  | with_reducible refine s_raise ?_
  | with_reducible refine s_if ?_
  | with_reducible refine s_ret ?_
  | with_reducible refine s_retN ?_
  | with_reducible refine s_next ?_
  | with_reducible refine s_brk ?_
  | with_reducible refine s_cont ?_
  | with_reducible refine s_drop ?_
  | with_reducible refine s_par ?_
  | with_reducible refine s_par3 ?_
  | ((with_reducible refine s_p2 ?_); dsimp only [List.set])
  | ((with_reducible refine s_p3 ?_); dsimp only [List.set])
  | with_reducible refine f_r1 ?_
  | with_reducible refine f_r2 ?_
  | with_reducible refine f_l ?_
  | with_reducible refine f_t ?_
  | with_reducible refine f_s ?_
  | with_reducible refine c_r1 ?_
  | with_reducible refine c_r2 ?_
  | with_reducible refine c_l ?_
  | with_reducible refine c_t ?_
  | with_reducible refine c_s ?_
  | with_reducible refine x_tst ?_
  | with_reducible refine x_tru ?_
  | with_reducible refine x_truB ?_
  | with_reducible refine x_bl2 ?_
  | with_reducible refine x_int ?_
  | with_reducible refine x_str ?_
  | with_reducible refine x_not ?_
  | with_reducible refine x_and ?_
  | with_reducible refine x_or ?_
  | with_reducible refine x_andV ?_
  | with_reducible refine x_orV ?_
  | with_reducible refine x_notV ?_
  | with_reducible refine x_if ?_
  | with_reducible refine x_yes ?_
  | with_reducible refine x_un ?_
  | with_reducible refine x_tup ?_
  | with_reducible refine x_lst ?_
  | with_reducible refine x_callK ?_
  | with_reducible refine x_callK0 ?_
  | with_reducible refine x_bm ?_
  | with_reducible refine x_bm0 ?_
  | with_reducible refine x_tyS ?_
  | with_reducible refine x_sl ?_
  | with_reducible refine x_nopart ?_
  | with_reducible refine x_part ?_
  | with_reducible refine x_fmt0 ?_
  | with_reducible refine x_gc ?_
  | with_reducible refine x_gz ?_
  | with_reducible refine x_ckw ?_
  | with_reducible refine x_fmt ?_
  | with_reducible refine x_chain ?_
  | with_reducible refine a_ii ?_
  | ((with_reducible refine sl_to ?rda ?rdb ?_); (case rda => walk_at "len"); (case rdb => walk_at "len"))
  | ((with_reducible refine sl_from ?rda ?rdb ?_); (case rda => walk_at "len"); (case rdb => walk_at "len"))
  | ((with_reducible refine sl_mid ?rda ?rdb ?rdc ?_); (case rda => walk_at "len"); (case rdb => walk_at "len"); (case rdc => walk_at "len"))
  | ((with_reducible refine a_SS ?rda ?_); (case rda => walk_at "len"))
  | ((with_reducible refine ln_S ?rda ?_); (case rda => walk_at "len"))
  | with_reducible refine e_SS ?_
  | with_reducible refine ne_SS ?_
  | with_reducible refine s_ii ?_
  | ((with_reducible refine md_ii ?rdc ?_); (case rdc => first | decide | assumption | omega))
  | with_reducible refine n_i ?_
  | with_reducible refine e_ii ?_
  | with_reducible refine e_bb ?_
  | with_reducible refine ne_ii ?_
  | with_reducible refine ne_bb ?_
  | with_reducible refine lt_ii ?_
  | with_reducible refine lt_ss ?_
  | with_reducible refine le_ii ?_
  | with_reducible refine le_ss ?_
  | with_reducible refine gt_ii ?_
  | with_reducible refine gt_ss ?_
  | with_reducible refine ge_ii ?_
  | with_reducible refine e_ss ?_
  | with_reducible refine ne_ss ?_
  | with_reducible refine is_N ?_
  | with_reducible refine is_T ?_
  | with_reducible refine is_B ?_
  | with_reducible refine isn_N ?_
  | with_reducible refine isn_T ?_
  | with_reducible refine isn_B ?_
  | with_reducible refine in_s ?_
  | with_reducible refine nin_s ?_
  | with_reducible refine i_i ?_
  | with_reducible refine i_b ?_
  | with_reducible refine ab_i ?_
  | with_reducible refine mx_ii ?_
  | with_reducible refine mn_ii ?_
  | with_reducible refine ty_N ?_
  | with_reducible refine ty_B ?_
  | with_reducible refine ty_I ?_
  | with_reducible refine ty_S ?_
  | with_reducible refine ma_s ?_
  | with_reducible refine mp_s ?_
  | with_reducible refine mdg_s ?_
  | with_reducible refine mf_s ?_
  | with_reducible refine iteT ?_
  | with_reducible refine iteF ?_
  | with_reducible refine iteNt ?_
  | with_reducible refine iteNf ?_
  | with_reducible refine iteTd (by decide) ?_
  | with_reducible refine iteFd (by decide) ?_
  | with_reducible refine iteNd (by decide) ?_
  | with_reducible refine iteNdF (by decide) ?_
  | ((with_reducible refine iteFd ?rdn ?_); (case rdn => (intro rdz; cases rdz; done)))
  | ((with_reducible refine iteNdF ?rdn ?_); (case rdn => (intro rdz; cases rdz; done))))
local macro_rules | `(tactic| walk_at "rd") => `(tactic| (repeat walk_at "rd1"))
section
variable {K : PySem.W.Frag}
/-! rows of texts in their order -/
theorem rising_pw : ∀ (a : List Nat) (r : List (List Nat)), risingS (S a) (r.map S) = true → (a :: r).Pairwise (fun x y => ¬ y < x)
  | a, [], _ => List.pairwise_singleton _ _
  | a, b :: r, h => by
    have h' : (!ltCps b a && risingS (S b) (r.map S)) = true := h
    rw [Bool.and_eq_true, ltCps_eq] at h'
    obtain ⟨h1, h2⟩ := h'
    have h3 : ¬ b < a := by
      intro z
      rw [decide_eq_true z] at h1
      cases h1
    have ih := rising_pw b r h2
    refine List.pairwise_cons.mpr ⟨fun y hy => ?_, ih⟩
    rcases List.mem_cons.mp hy with rfl | hy
    · exact h3
    · have h4 := (List.pairwise_cons.mp ih).1 y hy
      intro z
      by_cases e : a = b
      · exact h4 (by rw [← e]; exact z)
      · exact h4 (txt_trans z (txt_tri h3 e))
theorem sorted_pw {ks : List (List Nat)} (h : sortedS (ks.map S) = true) : ks.Pairwise (fun x y => ¬ y < x) := by
  cases ks with
  | nil => exact List.Pairwise.nil
  | cons a r => exact rising_pw a r h
theorem pw_uniq : ∀ {ks ls : List (List Nat)}, ks.Perm ls → ks.Pairwise (fun x y => ¬ y < x) → ls.Pairwise (fun x y => ¬ y < x) → ks = ls
  | [], ls, h, _, _ => (List.perm_nil.mp h.symm).symm
  | a :: ks, [], h, _, _ => by cases List.perm_nil.mp h
  | a :: ks, b :: ls, h, h1, h2 => by
    have e : a = b := by
      by_cases e : a = b
      · exact e
      · have ha : a ∈ b :: ls := h.mem_iff.mp (List.mem_cons_self ..)
        have hb : b ∈ a :: ks := h.mem_iff.mpr (List.mem_cons_self ..)
        have c1 : ¬ a < b := by
          rcases List.mem_cons.mp ha with z | ha
          · exact absurd z e
          · exact (List.pairwise_cons.mp h2).1 a ha
        have c2 : ¬ b < a := by
          rcases List.mem_cons.mp hb with z | hb
          · exact absurd z.symm e
          · exact (List.pairwise_cons.mp h1).1 b hb
        exact absurd (txt_tri c2 e) c1
    subst e
    rw [pw_uniq ((List.perm_cons a).mp h) (List.pairwise_cons.mp h1).2 (List.pairwise_cons.mp h2).2]
/-! entries by their names -/
def entOf (es : List En) (k : List Nat) : En := (es.find? fun e => decide (e.1 = k)).getD ([], .non, ([], []))
theorem ent_self {es : List En} (hn : (es.map (·.1)).Nodup) {e : En} (he : e ∈ es) : entOf es e.1 = e := by
  unfold entOf
  induction es with
  | nil => cases he
  | cons c es ih =>
    rw [List.map_cons, List.nodup_cons] at hn
    rw [List.find?_cons]
    by_cases h : c.1 = e.1
    · rw [decide_eq_true h]
      rcases List.mem_cons.mp he with rfl | he
      · rfl
      · exact absurd (List.mem_map.mpr ⟨e, he, rfl⟩) (h ▸ hn.1)
    · rw [decide_eq_false h]
      rcases List.mem_cons.mp he with rfl | he
      · exact absurd rfl h
      · exact ih hn.2 he
theorem ent_name {es : List En} (hn : (es.map (·.1)).Nodup) {k : List Nat} (hk : k ∈ es.map (·.1)) : entOf es k ∈ es ∧ (entOf es k).1 = k := by
  obtain ⟨e, he, rfl⟩ := List.mem_map.mp hk
  rw [ent_self hn he]
  exact ⟨he, rfl⟩
theorem ents_map {es : List En} (hn : (es.map (·.1)).Nodup) : (es.map (·.1)).map (entOf es) = es := by
  rw [List.map_map]
  conv => rhs; rw [← List.map_id es]
  exact List.map_congr_left fun e he => ent_self hn he
theorem nm_ent {f : Hd → Bool} {es : List En} (hn : (es.map (·.1)).Nodup) : nmL f es = (es.map (·.1)).filter fun k => f (entOf es k).2.2 := by
  unfold nmL
  rw [List.filter_map]
  congr 1
  exact List.filter_congr fun e he => by
    show f e.2.2 = f (entOf es e.1).2.2
    rw [ent_self hn he]
theorem nm_perm {f : Hd → Bool} {es fs : List En} (h : es.Perm fs) : (nmL f es).Perm (nmL f fs) := (h.filter _).map _
/-- the names that a function of their holds picks, in their order -/
theorem nm_law {f : Hd → Bool} {es es2 : List En} {ks ns : List (List Nat)} (hn : (es.map (·.1)).Nodup) (hp : ks.Perm (es.map (·.1))) (hs : sortedS (ks.map S) = true) (h2 : es2.Perm es) (hns : ns.Perm (nmL f es2)) (hsn : sortedS (ns.map S) = true) :
    ns = ks.filter fun k => f (entOf es k).2.2 := by
  refine pw_uniq ((hns.trans (nm_perm h2)).trans ?_) (sorted_pw hsn) ((sorted_pw hs).sublist List.filter_sublist)
  rw [nm_ent hn]
  exact (hp.filter _).symm
theorem filt_snoc {α : Type} {p : α → Bool} {l : List α} {i : Nat} {a : α} (h : l[i]? = some a) : (l.take (i + 1)).filter p = if p a = true then (l.take i).filter p ++ [a] else (l.take i).filter p := by
  rw [take_snoc h, List.filter_append]
  by_cases hf : p a = true
  · rw [if_pos hf, List.filter_cons, if_pos hf]
    rfl
  · rw [if_neg hf, List.filter_cons, if_neg hf]
    simp
theorem any_filt {α : Type} (p : α → Bool) [DecidableEq α] (l : List α) : (!decide (l.filter p = [])) = l.any p := by
  rw [Bool.eq_iff_iff, Bool.not_eq_true', decide_eq_false_iff_not, List.filter_eq_nil_iff, List.any_eq_true]
  constructor
  · intro h
    apply Classical.byContradiction
    intro g
    exact h fun a ha z => g ⟨a, ha, z⟩
  · rintro ⟨a, ha, z⟩ h
    exact h a ha z
theorem inV_tv (k : List Nat) (ls : List (List Nat)) : inV (.str (S k)) (tv ls) = decide (k ∈ ls) := by
  unfold inV tv
  rw [List.any_map, Bool.eq_iff_iff, List.any_eq_true, decide_eq_true_eq]
  constructor
  · rintro ⟨l, hl, h⟩
    have h2 : decide (S l = S k) = true := by simpa [eqV] using h
    rw [S_eq, decide_eq_true_eq] at h2
    rw [← h2]
    exact hl
  · intro h
    exact ⟨k, h, by simp [eqV]⟩
theorem flat_tv (ls : List (List Nat)) : (tv ls).all flatV = true := List.all_eq_true.mpr fun x hx => by
  obtain ⟨l, _, rfl⟩ := List.mem_map.mp hx
  rfl
/-! holds that are drawn -/
def HdG (h : Hd) : Prop := GoodC h.1 ∧ (∀ g ∈ h.2, ShG g) ∧ h.1.length ≤ 10 ∧ h.2.length ≤ 10
theorem HdG.sz {h : Hd} (g : HdG h) : HdS h := ⟨Nat.le_trans g.2.2.1 (by decide), Nat.le_trans g.2.2.2 (by decide)⟩
theorem fine_txt {c : Ch} (h : TxC c) (n : Nat) : Fine (n + 1) (chD c) := by
  obtain ⟨k, o⟩ := c
  refine fine_tup (by show 2 ≤ _; decide) fun e he => ?_
  rcases List.mem_cons.mp he with rfl | he
  · exact fine_str h.1.1 n
  · rw [List.mem_singleton.mp he]
    cases o with
    | none => exact fine_non n
    | some v => exact fine_str (h.2 v rfl).1 n
theorem fine_gd {g : Pd} (h : ShG g) (n : Nat) : Fine (n + 1) (pdD g) := by
  have one : ∀ o : Bd, (o = g.1 ∨ o = g.2) → Fine n (vlD o) := fun o ho => by
    cases o with
    | none => exact fine_non n
    | some v => exact fine_str (h v (ho.elim (fun z => .inl z.symm) fun z => .inr z.symm)).1 n
  refine fine_tup (by show 2 ≤ _; decide) fun e he => ?_
  rcases List.mem_cons.mp he with rfl | he
  · exact one _ (.inl rfl)
  · rw [List.mem_singleton.mp he]
    exact one _ (.inr rfl)
theorem fine_hdD {h : Hd} (g : HdG h) (n : Nat) : Fine (n + 3) (hdD h) := by
  refine fine_tup (by show 2 ≤ _; decide) fun e he => ?_
  rcases List.mem_cons.mp he with rfl | he
  · refine fine_tup (by rw [List.length_map]; exact Nat.le_trans g.2.2.1 (by decide)) fun e he => ?_
    obtain ⟨c, hc, rfl⟩ := List.mem_map.mp he
    exact fine_txt (g.1.2 c hc) n
  · rw [List.mem_singleton.mp he]
    refine fine_tup (by rw [List.length_map]; exact Nat.le_trans g.2.2.2 (by decide)) fun e he => ?_
    obtain ⟨c, hc, rfl⟩ := List.mem_map.mp he
    exact fine_gd (g.2.1 c hc) n
theorem fine_tvs {ls : List (List Nat)} (hl : ls.length ≤ 1000) (h : AllT ls) (n : Nat) : Fine (n + 1) (.tuple (ls.map fun l => PyData.str (S l))) := by
  refine fine_tup (by rw [List.length_map]; omega) fun e he => ?_
  obtain ⟨l, hl', rfl⟩ := List.mem_map.mp he
  exact fine_str (h l hl') n
def putE (es : List En) (n : List Nat) (v : V) (h : Hd) : List En := if es.any (fun e => decide (e.1 = n)) then es.map (fun e => if e.1 = n then (e.1, v, h) else e) else es ++ [(n, v, h)]
theorem put_E (es : List En) (n : List Nat) (v : V) (h : Hd) : putK (es.map enK) (Sum.inr (S n) : Key) v = (putE es n v h).map enK := by
  unfold putK putE
  have ek : ∀ c : En, ((enK c).1 = (Sum.inr (S n) : Key)) = (c.1 = n) := fun c => seen_eq c.1 n
  have e : (es.map enK).any (fun kv => decide (kv.1 = (Sum.inr (S n) : Key))) = es.any (fun c => decide (c.1 = n)) := by
    rw [List.any_map]
    congr 1
    funext c
    exact decide_eq_decide.mpr (by rw [ek])
  rw [e]
  by_cases hh : es.any (fun c => decide (c.1 = n)) = true
  · rw [if_pos hh, if_pos hh, List.map_map, List.map_map]
    congr 1
    funext c
    show (if (enK c).1 = (Sum.inr (S n) : Key) then ((enK c).1, v) else enK c) = enK (if c.1 = n then (c.1, v, h) else c)
    by_cases hc : c.1 = n
    · rw [if_pos hc, if_pos (by rw [ek]; exact hc)]
      rfl
    · rw [if_neg hc, if_neg (by rw [ek]; exact hc)]
  · rw [if_neg hh, if_neg hh, List.map_append]
    rfl
theorem putE_mem {es : List En} {n : List Nat} {v : V} {h : Hd} {e : En} (he : e ∈ putE es n v h) : e ∈ es ∨ e = (n, v, h) := by
  unfold putE at he
  by_cases ha : es.any (fun e => decide (e.1 = n)) = true
  · rw [if_pos ha] at he
    obtain ⟨c, hc, rfl⟩ := List.mem_map.mp he
    by_cases e : c.1 = n
    · rw [if_pos e, e]; exact .inr rfl
    · rw [if_neg e]; exact .inl hc
  · rw [if_neg ha] at he
    rcases List.mem_append.mp he with he | he
    · exact .inl he
    · exact .inr (List.mem_singleton.mp he)
theorem putE_len (es : List En) (n : List Nat) (v : V) (h : Hd) : (putE es n v h).length ≤ es.length + 1 := by
  unfold putE
  split
  · rw [List.length_map]; omega
  · rw [List.length_append]; exact Nat.le_refl _
theorem putE_nd {es : List En} {n : List Nat} {v : V} {h : Hd} (hn : (es.map (·.1)).Nodup) : ((putE es n v h).map (·.1)).Nodup := by
  unfold putE
  by_cases ha : es.any (fun c => decide (c.1 = n)) = true
  · rw [if_pos ha, List.map_map]
    have e : ((fun c : En => c.1) ∘ fun c => if c.1 = n then (c.1, v, h) else c) = fun c : En => c.1 := by
      funext c
      show (if c.1 = n then (c.1, v, h) else c).1 = c.1
      by_cases hc : c.1 = n
      · rw [if_pos hc]
      · rw [if_neg hc]
    rw [e]
    exact hn
  · rw [if_neg ha, List.map_append]
    refine List.nodup_append.mpr ⟨hn, by simp, fun a ha' b hb => ?_⟩
    have : b = n := List.mem_singleton.mp hb
    rintro rfl
    obtain ⟨c, hc, e⟩ := List.mem_map.mp ha'
    exact ha (List.any_eq_true.mpr ⟨c, hc, decide_eq_true (e.trans this)⟩)
theorem EnOk.put {H : Hp} {es : List En} {n : List Nat} {v : V} {h : Hd} (E : EnOk K H es) (hv : Dp K H v (hdD h)) (hh : HdS h) (hl : es.length ≤ 19) : EnOk K H (putE es n v h) := by
  refine ⟨fun e he => ?_, fun e he => ?_, putE_nd E.nd, Nat.le_trans (putE_len ..) (by omega)⟩
  · rcases putE_mem he with he | rfl
    · exact E.dp e he
    · exact hv
  · rcases putE_mem he with he | rfl
    · exact E.sz e he
    · exact hh
theorem EnOk.nil {H : Hp} : EnOk K H [] := ⟨(fun _ h => by cases h), (fun _ h => by cases h), List.nodup_nil, Nat.zero_le _⟩
/-! the state of the drawing -/
structure StK (K : PySem.W.Frag) (j d : Addr) (R H : Hp) (es : List En) : Prop where
  jar : JarAt H j
  fr : Fr j R H
  dic : H d = some (.dK (es.map enK))
  ok : EnOk K (ms [j, d] H) es
  new : R d = none
  good : ∀ e ∈ es, HdG e.2.2
section
variable {j d : Addr} {R H H' : Hp} {es : List En}
theorem StK.ne (h : StK K j d R H es) : d ≠ j := by
  rintro rfl
  obtain ⟨a, b, t, e, _⟩ := h.jar
  rw [h.dic] at e
  cases e
theorem StK.nt (h : StK K j d R H es) : ∀ x ∈ [j, d], ∀ o, H x = some o → NoT o := by
  intro x hx o ho
  rcases List.mem_cons.mp hx with rfl | hx
  · obtain ⟨a, b, t, e, _⟩ := h.jar
    rw [e] at ho
    cases ho
    exact True.intro
  · rw [List.mem_singleton.mp hx, h.dic] at ho
    cases ho
    exact True.intro
theorem StK.dat (h : StK K j d R H es) {x : PyData} {v : V} (hx : tupD x = true) (hv : Dp K H v x) : Dp K (ms [j, d] H) v x := ms_dp h.nt x v hx hv
theorem ms_fr2 (hF : Fr j H H') : Same (ms [j, d] H) (ms [j, d] H') := ms_frm (List.mem_cons_self ..) (List.mem_cons_self ..) hF
theorem StK.draw (h : StK K j d R H es) (hJ : JarAt H' j) (hF : Fr j H H') : StK K j d R H' es := ⟨hJ, h.fr.trans hF, hF _ _ h.ne h.ne h.dic, h.ok.mono (ms_fr2 hF), h.new, h.good⟩
theorem StK.same (h : StK K j d R H es) (hS : Same H H') : StK K j d R H' es := h.draw (h.jar.same hS) (Frm.of hS)
theorem StK.un (h : StK K j d R H es) : EnOk K H es := h.ok.mono ms_le
theorem StK.put (h : StK K j d R H es) {n : List Nat} {v : V} {x : Hd} (hv : Dp K H v (hdD x)) (hx : HdG x) (hl : es.length ≤ 19) : StK K j d R (upd H d (.dK ((putE es n v x).map enK))) (putE es n v x) := by
  have hm : Same (ms [j, d] H) (ms [j, d] (upd H d (.dK ((putE es n v x).map enK)))) := ms_upd (List.mem_cons_of_mem _ (List.mem_singleton.mpr rfl))
  refine ⟨h.jar.keep h.ne, Fr.cut h.fr (Frm.refl R) h.new, upd_same, (h.ok.put (h.dat (tup_hd _) hv) hx.sz hl).mono hm, h.new, fun e he => ?_⟩
  rcases putE_mem he with he | rfl
  · exact h.good e he
  · exact hx
end
end
section
variable {K : PySem.W.Frag}
theorem putE_new {es : List En} {n : List Nat} {v : V} {h : Hd} (hn : n ∉ es.map (·.1)) : putE es n v h = es ++ [(n, v, h)] := by
  unfold putE
  rw [if_neg]
  intro z
  obtain ⟨c, hc, e⟩ := List.any_eq_true.mp z
  exact hn (List.mem_map.mpr ⟨c, hc, of_decide_eq_true e⟩)
theorem nodup_take {α : Type} {l : List α} {i : Nat} {a : α} (hn : l.Nodup) (h : l[i]? = some a) : a ∉ l.take i := by
  have e : l = l.take i ++ a :: l.drop (i + 1) := by
    conv => lhs; rw [← List.take_append_drop i l]
    congr 1
    have hi := (List.getElem?_eq_some_iff.mp h)
    obtain ⟨h1, h2⟩ := hi
    rw [List.drop_eq_getElem_cons h1, h2]
  rw [e] at hn
  intro z
  exact (List.nodup_append.mp hn).2.2 a z a (List.mem_cons_self ..) rfl
theorem names_take {es : List En} (hn : (es.map (·.1)).Nodup) {ks : List (List Nat)} (hk : ∀ k ∈ ks, k ∈ es.map (·.1)) : (ks.map (entOf es)).map (·.1) = ks := by
  rw [List.map_map]
  conv => rhs; rw [← List.map_id ks]
  exact List.map_congr_left fun k h => (ent_name hn (hk k h)).2
theorem EnOk.perm {H : Hp} {es fs : List En} (h : EnOk K H es) (p : fs.Perm es) : EnOk K H fs := ⟨fun e he => h.dp e (p.mem_iff.mp he), fun e he => h.sz e (p.mem_iff.mp he), (p.map (·.1)).nodup_iff.mpr h.nd, by rw [p.length_eq]; exact h.ln⟩
theorem ne_nil_list {H : Hp} {Q : VK} {p q : Addr} {ls : List (List Nat)} (hT : AllT ls) (hp : H p = some (.lst (tv ls))) (hq : H q = some (.lst [])) (h : Q (.bl (!decide (ls = []))) H) : rNE K (.ref p) (.ref q) H Q := by
  refine ne_d (d := .list (ls.map fun l => PyData.str (S l))) (e := .list []) (.lst (lst_of hp) (dp_strs H ls)) (.lst (lst_of hq) .nil) (shaped_strs ls hT) (shaped_strs [] fun _ h => by cases h) ?_
  rw [eqv_strs]
  exact h
theorem ms1_nt {j : Addr} {H : Hp} (hJ : JarAt H j) : ∀ x ∈ [j], ∀ o, H x = some o → NoT o := by
  intro x hx o ho
  obtain ⟨a, b, t, e, _⟩ := hJ
  rw [List.mem_singleton.mp hx, e] at ho
  cases ho
  exact True.intro
theorem ms1_fr {j : Addr} {H H' : Hp} (hF : Fr j H H') : Same (ms [j] H) (ms [j] H') := ms_frm (List.mem_singleton.mpr rfl) (List.mem_singleton.mpr rfl) hF
theorem mkM_T {j p : Addr} {G : Hp} {us : List V} {ds : List PyData} (hJ : JarAt G j) (hp : G p = none) (hd : DpAll K (ms [j] G) us ds) : JarAt (upd G p (.tup us)) j ∧ Same G (upd G p (.tup us)) ∧ Same (ms [j] G) (ms [j] (upd G p (.tup us))) ∧ Dp K (ms [j] (upd G p (.tup us))) (.ref p) (.tuple ds) := by
  have h1 := ms_new (L := [j]) hp (o := .tup us)
  exact ⟨hJ.new hp, same_upd hp, h1, .tup (tup_of (ms_at (fun z => hJ.off hp (List.mem_singleton.mp z)) upd_same)) (dpAll_mono h1 _ _ hd)⟩
theorem mkM_L {j p : Addr} {G : Hp} {us : List V} {ds : List PyData} (hJ : JarAt G j) (hp : G p = none) (hd : DpAll K (ms [j] G) us ds) : JarAt (upd G p (.lst us)) j ∧ Same G (upd G p (.lst us)) ∧ Same (ms [j] G) (ms [j] (upd G p (.lst us))) ∧ Dp K (ms [j] (upd G p (.lst us))) (.ref p) (.list ds) ∧ SqL K (ms [j] (upd G p (.lst us))) p us := by
  have h1 := ms_new (L := [j]) hp (o := .lst us)
  have h2 : SqL K (ms [j] (upd G p (.lst us))) p us := lst_of (ms_at (fun z => hJ.off hp (List.mem_singleton.mp z)) upd_same)
  exact ⟨hJ.new hp, same_upd hp, h1, .lst h2 (dpAll_mono h1 _ _ hd), h2⟩
end
end My

set_option Elab.async false
set_option linter.all false
set_option maxRecDepth 100000
set_option maxHeartbeats 1000000
namespace My
open PySem PySem.Spec PyProof.Rows L2
local macro_rules | `(tactic| walk_at "len") => `(tactic| first | assumption | omega | decide | (simp only [List.length_append, List.length_take, List.length_drop, List.length_cons, List.length_nil, List.length_replicate]; omega))
local macro_rules | `(tactic| walk_at "side") => `(tactic| first | assumption | exact Nat.zero_le _ | decide | omega)
local macro_rules | `(tactic| walk_at "rd1") => `(tactic| first
  | with_reducible refine s_seq ?_
  | with_reducible refine x_gsub ?_
  | with_reducible refine s_asg ?_
  | ((with_reducible refine s_gn ?_); dsimp only [List.set])
  | ((with_reducible refine x_var (v := ?rdv) ?rdhv ?_); (case rdhv => rfl))
  | with_reducible refine x_c ?_
  | with_reducible refine x_op ?_
  | with_reducible refine x_cons ?_
  | with_reducible refine x_nil ?_
  | with_reducible refine x_cb ?_
  | with_reducible refine x_call ?_
  | with_reducible refine x_callS ?_
  | with_reducible refine x_revT ?_
  | with_reducible refine x_dget ?_
  | with_reducible refine x_din ?_
  | with_reducible refine x_dnotin ?_
  | with_reducible refine s_dput ?_
  | with_reducible refine x_dnew ?_
  | with_reducible refine s_try ?_
  | with_reducible refine s_raise ?_
  | with_reducible refine s_if ?_
  | with_reducible refine s_ret ?_
  | with_reducible refine s_retN ?_
  | with_reducible refine s_next ?_
  | with_reducible refine s_brk ?_
  | with_reducible refine s_cont ?_
  | with_reducible refine s_drop ?_
  | with_reducible refine s_par ?_
  | with_reducible refine s_par3 ?_
  | ((with_reducible refine s_p2 ?_); dsimp only [List.set])
  | ((with_reducible refine s_p3 ?_); dsimp only [List.set])
  | with_reducible refine f_r1 ?_
  | with_reducible refine f_r2 ?_
  | with_reducible refine f_l ?_
  | with_reducible refine f_t ?_
  | with_reducible refine f_s ?_
  | with_reducible refine c_r1 ?_
  | with_reducible refine c_r2 ?_
  | with_reducible refine c_l ?_
  | with_reducible refine c_t ?_
  | with_reducible refine c_s ?_
  | with_reducible refine x_tst ?_
  | with_reducible refine x_tru ?_
  | with_reducible refine x_truB ?_
  | with_reducible refine x_bl2 ?_
  | with_reducible refine x_int ?_
  | with_reducible refine x_str ?_
  | with_reducible refine x_not ?_
  | with_reducible refine x_and ?_
  | with_reducible refine x_or ?_
  | with_reducible refine x_andV ?_
  | with_reducible refine x_orV ?_
  | with_reducible refine x_notV ?_
  | with_reducible refine x_if ?_
  | with_reducible refine x_yes ?_
  | with_reducible refine x_un ?_
  | with_reducible refine x_tup ?_
  | with_reducible refine x_lst ?_
  | with_reducible refine x_callK ?_
  | with_reducible refine x_callK0 ?_
  | with_reducible refine x_bm ?_
  | with_reducible refine x_bm0 ?_
  | with_reducible refine x_tyS ?_
  | with_reducible refine x_sl ?_
  | with_reducible refine x_nopart ?_
  | with_reducible refine x_part ?_
  | with_reducible refine x_fmt0 ?_
  | with_reducible refine x_gc ?_
  | with_reducible refine x_gz ?_
  | with_reducible refine x_ckw ?_
  | with_reducible refine x_fmt ?_
  | with_reducible refine x_chain ?_
  | with_reducible refine a_ii ?_
  | ((with_reducible refine sl_to ?rda ?rdb ?_); (case rda => walk_at "len"); (case rdb => walk_at "len"))
  | ((with_reducible refine sl_from ?rda ?rdb ?_); (case rda => walk_at "len"); (case rdb => walk_at "len"))
  | ((with_reducible refine sl_mid ?rda ?rdb ?rdc ?_); (case rda => walk_at "len"); (case rdb => walk_at "len"); (case rdc => walk_at "len"))
  | ((with_reducible refine a_SS ?rda ?_); (case rda => walk_at "len"))
  | ((with_reducible refine ln_S ?rda ?_); (case rda => walk_at "len"))
  | with_reducible refine e_SS ?_
  | with_reducible refine ne_SS ?_
  | with_reducible refine s_ii ?_
  | ((with_reducible refine md_ii ?rdc ?_); (case rdc => first | decide | assumption | omega))
  | with_reducible refine n_i ?_
  | with_reducible refine e_ii ?_
  | with_reducible refine e_bb ?_
  | with_reducible refine ne_ii ?_
  | with_reducible refine ne_bb ?_
  | with_reducible refine lt_ii ?_
  | with_reducible refine lt_ss ?_
  | with_reducible refine le_ii ?_
  | with_reducible refine le_ss ?_
  | with_reducible refine gt_ii ?_
  | with_reducible refine gt_ss ?_
  | with_reducible refine ge_ii ?_
  | with_reducible refine e_ss ?_
  | with_reducible refine ne_ss ?_
  | with_reducible refine is_N ?_
  | with_reducible refine is_T ?_
  | with_reducible refine is_B ?_
  | with_reducible refine isn_N ?_
  | with_reducible refine isn_T ?_
  | with_reducible refine isn_B ?_
  | with_reducible refine in_s ?_
  | with_reducible refine nin_s ?_
  | with_reducible refine i_i ?_
  | with_reducible refine i_b ?_
  | with_reducible refine ab_i ?_
  | with_reducible refine mx_ii ?_
  | with_reducible refine mn_ii ?_
  | with_reducible refine ty_N ?_
  | with_reducible refine ty_B ?_
  | with_reducible refine ty_I ?_
  | with_reducible refine ty_S ?_
  | with_reducible refine ma_s ?_
  | with_reducible refine mp_s ?_
  | with_reducible refine mdg_s ?_
  | with_reducible refine mf_s ?_
  | with_reducible refine iteT ?_
  | with_reducible refine iteF ?_
  | with_reducible refine iteNt ?_
  | with_reducible refine iteNf ?_
  | with_reducible refine iteTd (by decide) ?_
  | with_reducible refine iteFd (by decide) ?_
  | with_reducible refine iteNd (by decide) ?_
  | with_reducible refine iteNdF (by decide) ?_
  | ((with_reducible refine iteFd ?rdn ?_); (case rdn => (intro rdz; cases rdz; done)))
  | ((with_reducible refine iteNdF ?rdn ?_); (case rdn => (intro rdz; cases rdz; done))))
local macro_rules | `(tactic| walk_at "rd") => `(tactic| (repeat walk_at "rd1"))
section
variable {P : Program} {w : World} {K : PySem.W.Frag} {mg : Str → Option Value} {base : Heap}
def nameLs : List (List Nat) := [[98], [97], [97, 98], [122, 122], [109], [97, 97]]
theorem name_ok : ∀ l ∈ nameLs, isT l = true ∧ l.length ≤ 2 := by decide
theorem dp_tvl {H : Hp} {p : Addr} {ls : List (List Nat)} (h : H p = some (.lst (tv ls))) : Dp K H (.ref p) (.list (ls.map fun l => PyData.str (S l))) := .lst (lst_of h) (dp_strs H ls)
theorem dp_tvt {H : Hp} {p : Addr} {ls : List (List Nat)} (h : H p = some (.tup (tv ls))) : Dp K H (.ref p) (.tuple (ls.map fun l => PyData.str (S l))) := .tup (tup_of h) (dp_strs H ls)
theorem shaped_nil : SeqAt.shaped (.list []) = true := shaped_strs [] fun _ h => by cases h
/-- the six that are no changes -/
def badD (cs : List Ch) : List PyData := [.list (cs.map chD), .tuple [chD ([98], some [120]), chD ([97], some [120])], .tuple [chD ([97], some [120]), chD ([97], none)], .tuple [.tuple [.str (S [97])]], .none, .tuple [.tuple [.str (S [97]), .int 1]]]
theorem bad_no (cs : List Ch) : ∀ d ∈ badD cs, isChsD d = false ∧ ∀ ds, d = .tuple ds → ds.length ≤ 100000 := by
  intro d hd
  have one : ∀ {ds : List PyData}, ds.length ≤ 10 → ∀ es, PyData.tuple ds = .tuple es → es.length ≤ 100000 := fun h es e => by cases e; omega
  rcases List.mem_cons.mp hd with rfl | hd
  · exact ⟨rfl, fun ds e => by cases e⟩
  rcases List.mem_cons.mp hd with rfl | hd
  · exact ⟨by decide +kernel, one (by decide)⟩
  rcases List.mem_cons.mp hd with rfl | hd
  · exact ⟨by decide +kernel, one (by decide)⟩
  rcases List.mem_cons.mp hd with rfl | hd
  · exact ⟨rfl, one (by decide)⟩
  rcases List.mem_cons.mp hd with rfl | hd
  · exact ⟨rfl, fun ds e => by cases e⟩
  rw [List.mem_singleton.mp hd]
  exact ⟨by decide +kernel, one (by decide)⟩
def spLaw (K : PySem.W.Frag) : Sp := fun vs H Q _ => ∃ (a : Addr) (ns : List Int), vs = [.ref a] ∧ SqL K H a (ns.map V.int) ∧ ns.length ≤ 63 ∧ ∀ H', Q (.bl true) H'
theorem ok_law (Y : Fx K mg) : FnOk P w K mg base CX0 7 Y.a_law Y.fd_law ["_law_script"] (spLaw K) := by
  refine Y.F_law.ok sc_law (fun vs H Q E h => ?_) (fun cdv A outer st H vs Q E hr h => ?_)
  · obtain ⟨a, ns, rfl, _⟩ := h
    rfl
  · obtain ⟨a, ns, rfl, hS, hl, q⟩ := h
    refine ⟨_, b_law Y (sp__law_same := spS (Fine 4)) (sp_held_names := sp_held_names Y.x_InvalidChanges) (ok__law_changes Y) (ok__law_draw Y) (ok__law_guards Y) (ok__law_is_refused Y) (ok__law_lies Y) (ok__law_same Y 4) (ok__law_well Y) (ok_changing_names Y) (ok_held_names Y) hr, ?_⟩
    show t_law K _ _ _ _ _ _ _ _ _ _ [some (.ref a), none, none, none, none, none, none, none, none, none, none, none, none, none, none, none] H
    unfold t_law
    rw [show ("b" : Str) = S [98] from rfl, show ("a" : Str) = S [97] from rfl, show ("x" : Str) = S [120] from rfl]
    walk_at "rd"
    refine ⟨a, _, rfl, .inl hS, fun p1 hp1 => ?_⟩
    walk_at "rd"
    refine ⟨by show 1 ≤ sizeLine; decide, fun p2 hp2 => ?_⟩
    refine a_ll (same_upd hp2 _ _ upd_same) upd_same (by rw [List.length_map]; exact Nat.le_trans (show ns.length + 1 ≤ 64 by omega) (by decide)) fun p3 hp3 => ?_
    walk_at "rd"
    refine sl_L (lst_of upd_same) fun p4 hp4 => ?_
    rw [show (some (20 : Int)) = some ((20 : Nat) : Int) from rfl, cutV_to]
    have e6 : (ns.map V.int ++ [V.int 0]).take 20 = ((ns ++ [0]).take 20).map V.int := by
      rw [List.map_take, List.map_append]
      rfl
    rw [e6]
    generalize hLL : (ns ++ [0]).take 20 = L
    have h66 : (upd (upd (upd (upd H p1 (.lst (ns.map V.int))) p2 (.lst [V.int 0])) p3 (.lst (ns.map V.int ++ [V.int 0]))) p4 (.lst (L.map V.int))) p4 = some (.lst (L.map V.int)) := upd_same
    generalize upd (upd (upd (upd H p1 (.lst (ns.map V.int))) p2 (.lst [V.int 0])) p3 (.lst (ns.map V.int ++ [V.int 0]))) p4 (.lst (L.map V.int)) = H6 at h66 ⊢
    refine forL_mk (lst_of h66) (fun i σ H' => ∃ y1 y2 y3 y4 y5 y6 y7 y8 y9 y10 y11 y12 y13 y14 y15 : Option V, σ = [some (.ref a), y1, y2, y3, y4, y5, y6, y7, y8, y9, y10, y11, y12, y13, y14, y15] ∧ Same H6 H') ⟨_, _, _, _, _, _, _, _, _, _, _, _, _, _, _, rfl, Same.refl _⟩ (fun i σ H' _ hV => lst_of (by obtain ⟨_, _, _, _, _, _, _, _, _, _, _, _, _, _, _, _, e⟩ := hV; exact e _ _ h66)) (fun i x σ H' hx hV => ?_) (fun σ H' hV => ?_)
    · obtain ⟨y1, y2, y3, y4, y5, y6, y7, y8, y9, y10, y11, y12, y13, y14, y15, rfl, hS'⟩ := hV
      obtain ⟨z, _, rfl⟩ := map_get hx
      clear hx hS hl hLL
      walk_at "rd"
      refine ⟨z, rfl, fun j H7 hj hJ7 hS7 => ?_⟩
      walk_at "rd"
      refine fun d hd => ?_
      have St8 : StK K j d H7 (upd H7 d (.dK [])) [] := ⟨hJ7.new hd, (Frm.refl H7).new hd, upd_same, EnOk.nil, hd, fun _ h => by cases h⟩
      generalize upd H7 d (.dK []) = H8 at St8
      refine s_gn ?_
      show tSeq _ _ _ [some (.ref a), some (.int z), some (.ref j), some (.ref d), y4, y5, y6, y7, y8, y9, y10, y11, y12, y13, y14, y15] H8
      walk_at "rd"
      refine ⟨j, 5, rfl, St8.jar, by decide, by decide, fun m H9 m0 m1 hJ9 hF9 => ?_⟩
      have St9 := St8.draw hJ9 hF9
      clear St8 hJ9 hF9
      refine for1_mk (by omega) (by omega) (fun i σ H' => ∃ (es : List En) (y4 y6 : Option V), σ = [some (.ref a), some (.int z), some (.ref j), some (.ref d), y4, y5, y6, y7, y8, y9, y10, y11, y12, y13, y14, y15] ∧ StK K j d H7 H' es ∧ es.length ≤ i ∧ ∀ e ∈ es, isT e.1 = true)
        ⟨[], _, _, rfl, St9, Nat.le_refl _, fun _ h => by cases h⟩ (fun i σ H' hi hV => ?_) (fun σ H' hV => ?_)
      · obtain ⟨es, y4, y6, rfl, St, hel, hnT⟩ := hV
        clear St9
        walk_at "rd"
        refine ⟨by show 6 ≤ sizeLine; decide, fun u hu => ?_⟩
        have E1 : upd H' u (.lst [V.str (S [98]), .str (S [97]), .str "ab", .str "zz", .str "m", .str "aa"]) u = some (.lst (tv nameLs)) := upd_same
        have ou := St.jar.off hu
        replace St := St.same (same_upd hu (o := .lst [V.str (S [98]), .str (S [97]), .str "ab", .str "zz", .str "m", .str "aa"]))
        generalize upd H' u (.lst [V.str (S [98]), .str (S [97]), .str "ab", .str "zz", .str "m", .str "aa"]) = G1 at E1 St ⊢
        walk_at "rd"
        refine ⟨j, 6, rfl, St.jar, by decide, by decide, fun r G2 r0 r1 hJ2 hF2 => ?_⟩
        replace St := St.draw hJ2 hF2
        refine ix_tv (lst_of (hF2 _ _ ou ou E1)) r0 (by show r < 6; exact r1) fun n hn => ?_
        clear E1 ou hJ2 hF2 hu
        walk_at "rd"
        refine ⟨j, 1, 3, rfl, by decide, by decide, St.jar, fun pc uc cs G3 hJ3 hF3 hpc hVc hGc hlc => ?_⟩
        replace St := St.draw hJ3 hF3
        have Dc := St.dat (tup_chs cs) (.tup (tup_of hpc) hVc.dp)
        clear hJ3 hF3 hpc hVc
        walk_at "rd"
        refine ⟨j, 2, rfl, by decide, St.jar, fun pg ug gs G4 hJ4 hF4 hpg hVg hGg hlg => ?_⟩
        replace St := St.draw hJ4 hF4
        replace Dc := dp_mono (ms_fr2 (d := d) hF4) _ _ Dc
        have Dg : Dp K G4 (.ref pg) (.tuple (gs.map pdD)) := .tup (tup_of hpg) hVg.dp
        clear hJ4 hF4 hpg hVg
        walk_at "rd"
        refine ⟨by show 2 ≤ sizeLine; decide, fun t ht => ?_⟩
        have S5 := same_upd ht (o := .tup [V.ref pc, .ref pg])
        have Dh : Dp K (upd G4 t (.tup [V.ref pc, .ref pg])) (.ref t) (hdD (cs, gs)) := .tup (tup_of upd_same) (.cons (dp_mono S5 _ _ (ms_un Dc)) (.cons (dp_mono S5 _ _ Dg) .nil))
        replace St := St.same S5
        generalize upd G4 t (.tup [V.ref pc, .ref pg]) = G5 at St Dh ⊢
        walk_at "rd"
        refine ⟨d, _, rfl, .inl ⟨_, Sum.inr (S n), St.dic, rfl, Nat.lt_of_le_of_lt (show _ ≤ 100 by rw [List.length_map]; omega) (by decide), rfl⟩, putE es n (.ref t) (cs, gs), _, _, rfl, ?_, Nat.le_trans (putE_len ..) (by omega), fun e he => ?_⟩
        · rw [put_E]
          exact St.put Dh ⟨hGc, hGg, by show cs.length ≤ 10; omega, by show gs.length ≤ 10; omega⟩ (by omega)
        · rcases putE_mem he with he | rfl
          · exact hnT e he
          · exact (name_ok n hn).1
      · obtain ⟨es, y4, y6, rfl, St, hel, hnT⟩ := hV
        clear St9
        have hel' : es.length ≤ 5 := by omega
        walk_at "rd"
        refine ⟨j, 0, 4, rfl, by decide, by decide, St.jar, fun pc uc cs G3 hJ3 hF3 hpc hVc hGc hlc => ?_⟩
        replace St := St.draw hJ3 hF3
        have Dc := St.dat (tup_chs cs) (.tup (tup_of hpc) hVc.dp)
        clear hJ3 hF3 hpc hVc
        walk_at "rd"
        refine ⟨j, 4, rfl, by decide, St.jar, fun pg ug gs G4 hJ4 hF4 hpg hVg hGg hlg => ?_⟩
        replace St := St.draw hJ4 hF4
        replace Dc := ms_un (dp_mono (ms_fr2 (d := d) hF4) _ _ Dc)
        have Dg : Dp K G4 (.ref pg) (.tuple (gs.map pdD)) := .tup (tup_of hpg) hVg.dp
        clear hJ4 hF4 hpg hVg
        walk_at "rd"
        refine ⟨by show 2 ≤ sizeLine; decide, fun t ht => ?_⟩
        have S5 := same_upd ht (o := .tup [V.ref pc, .ref pg])
        replace Dc := dp_mono S5 _ _ Dc
        replace Dg := dp_mono S5 _ _ Dg
        replace St := St.same S5
        have E5 : upd G4 t (.tup [V.ref pc, .ref pg]) t = some (.tup [V.ref pc, .ref pg]) := upd_same
        generalize upd G4 t (.tup [V.ref pc, .ref pg]) = G5 at St Dc Dg E5 ⊢
        refine gt_T (tup_of E5) rfl ?_
        refine x_gc ?_
        refine s_gn ?_
        refine x_gc ?_
        refine s_gn ?_
        refine x_gz ?_
        clear E5 S5 ht
        show tSeq _ _ _ [some (.ref a), some (.int z), some (.ref j), some (.ref d), y4, y5, y6, y7, y8, some (.ref pc), some (.ref pg), y11, y12, y13, y14, y15] G5
        obtain ⟨pc', xc, ec, hpc, hac⟩ := dp_tup' (ds := cs.map chD) Dc
        cases ec
        have hcl := dpAll_len hac
        rw [List.length_map] at hcl
        walk_at "rd"
        refine lcT_mk hpc (fun D i H' => Same G5 H' ∧ H' D = some (.lst (tv ((cs.take i).map (·.1))))) (fun D hD => ⟨same_upd hD, upd_same⟩) (fun D i H' hD _ hP => same_sqt hP.1 hpc) (fun D i x H' hD hxi hP => ?_) (fun D5 G6 hD5 hP => ?_)
        · obtain ⟨hS, hH⟩ := hP
          obtain ⟨c, hc, hdc⟩ := all_at hac hxi
          have hi := (List.getElem?_eq_some_iff.mp hc).1
          obtain ⟨tc, rfl, htc⟩ := dp_ch hdc
          refine gt_T (same_sqt hS htc) rfl ?_
          refine x_gc ?_
          refine s_gn ?_
          refine x_gc ?_
          refine s_gn ?_
          refine x_gz ?_
          refine ⟨rfl, ?_⟩
          show tYes [some (.ref a), some (.int z), some (.ref j), some (.ref d), y4, y5, y6, y7, y8, some (.ref pc), some (.ref pg), y11, y12, y13, some (.str (S c.1)), some (vlV c.2)] H' _
          walk_at "rd"
          refine ⟨_, hH, Nat.lt_of_le_of_lt (show _ ≤ 200 by rw [tv_len, List.length_map, List.length_take]; omega) (by decide), same_mut hS hD, ?_⟩
          rw [upd_same, take_snoc hc, List.map_append, tv_app]
          rfl
        · obtain ⟨hS6, hH6⟩ := hP
          rw [hcl, List.take_of_length_le (Nat.le_refl _)] at hH6
          replace Dc := dp_mono hS6 _ _ Dc
          replace Dg := dp_mono hS6 _ _ Dg
          replace St := St.same hS6
          clear hS6 hpc hac hcl
          have kT : AllT (cs.map (·.1)) := fun l hl => by
            obtain ⟨c, hc, rfl⟩ := List.mem_map.mp hl
            exact (hGc.2 c hc).1.1
          have kL : (cs.map (·.1)).length ≤ 10 := by rw [List.length_map]; omega
          have hcl : cs.length ≤ 10 := by omega
          generalize hks : cs.map (·.1) = keys at hH6 kT kL
          walk_at "rd"
          refine ⟨Nat.zero_le _, fun dh hdh => ?_⟩
          have S7 := same_upd hdh (o := .lst [])
          have E7 : upd G6 dh (.lst []) dh = some (.lst (tv [])) := upd_same
          have N7 : G6 dh = none := hdh
          generalize upd G6 dh (.lst []) = G7 at S7 E7 ⊢
          walk_at "rd"
          refine ⟨Nat.zero_le _, fun dc hdc => ?_⟩
          have S8 := same_upd hdc (o := .lst [])
          have E8 : upd G7 dc (.lst []) dc = some (.lst (tv [])) := upd_same
          have N8 : G6 dc = none := by
            cases hq : G6 dc with
            | none => rfl
            | some o => rw [S7 _ _ hq] at hdc; cases hdc
          have ne1 : dh ≠ dc := ne_of_none E7 hdc
          replace E7 := S8 _ _ E7
          have S68 := S7.trans S8
          generalize upd G7 dc (.lst []) = G8 at S68 E7 E8 ⊢
          clear S7 S8 hdh hdc
          have nd := St.ok.nd
          walk_at "rd"
          refine ⟨d, _, es.map fun e => S e.1, rfl, .inl (S68 _ _ St.dic), by rw [List.map_map, List.map_map]; rfl, by rw [List.length_map]; omega, fun ys p hys hsr hp => ?_⟩
          obtain ⟨ks, rfl⟩ := strs_of ys
          have hpk : ks.Perm (es.map (·.1)) := perm_S (by rw [List.map_map]; exact hys)
          clear hys
          have hkl : ks.length = es.length := by
            have := hpk.length_eq
            rw [List.length_map] at this
            exact this
          have S9 := same_upd hp (o := .lst ((ks.map S).map V.str))
          have E9 : upd G8 p (.lst ((ks.map S).map V.str)) p = some (.lst (tv ks)) := by rw [upd_same, ← tv_eq]
          have ne2 : p ≠ dh := Ne.symm (ne_of_none E7 hp)
          have ne3 : p ≠ dc := Ne.symm (ne_of_none E8 hp)
          replace E7 := S9 _ _ E7
          replace E8 := S9 _ _ E8
          replace S68 := S68.trans S9
          generalize upd G8 p (.lst ((ks.map S).map V.str)) = G9 at S68 E7 E8 E9 ⊢
          clear S9 hp
          refine forL_mk (xs := tv ks) (lst_of E9) (fun i σ H' => ∃ y6 y13 : Option V, σ = [some (.ref a), some (.int z), some (.ref j), some (.ref d), y4, some (.ref D5), y6, y7, y8, some (.ref pc), some (.ref pg), some (.ref dh), some (.ref dc), y13, y14, y15] ∧ Same G6 H' ∧ H' p = some (.lst (tv ks)) ∧ H' dh = some (.lst (tv ((ks.take i).filter fun k => hasB (entOf es k).2.2 keys))) ∧ H' dc = some (.lst (tv ((ks.take i).filter fun k => chgB (entOf es k).2.2 gs)))) ⟨_, _, rfl, S68, E9, E7, E8⟩ (fun i σ H' _ hV => lst_of (by obtain ⟨_, _, _, _, e, _⟩ := hV; exact e)) (fun i x σ H' hxi hV => ?_) (fun σ H' hV => ?_)
          · obtain ⟨y6, y13, rfl, hS, hpp, h1, h2⟩ := hV
            clear S68 E7 E8 E9
            unfold tv at hxi
            rw [List.getElem?_map] at hxi
            cases hki : ks[i]? with
            | none => rw [hki] at hxi; cases hxi
            | some k =>
              rw [hki] at hxi
              cases hxi
              have hkm : k ∈ es.map (·.1) := hpk.mem_iff.mp (List.mem_of_getElem? hki)
              obtain ⟨hem, hen⟩ := ent_name nd hkm
              rw [filt_snoc hki, filt_snoc hki]
              have hval := en_val nd hem
              rw [hen] at hval
              generalize entOf es k = e at hem hen hval ⊢
              have hDe := St.un.dp e hem
              have hGe := St.good e hem
              obtain ⟨t, u, v, et, ht, hu, hv⟩ := dp_tup2 (show Dp K G6 e.2.1 (.tuple [chsD e.2.2.1, .tuple (e.2.2.2.map pdD)]) from hDe)
              obtain ⟨pu, us, rfl, hpu, hau⟩ := dp_tup' (ds := e.2.2.1.map chD) hu
              have hul := dpAll_len hau
              rw [List.length_map] at hul
              have fi : ((ks.take i).filter fun k => hasB (entOf es k).2.2 keys).length ≤ 20 := Nat.le_trans (List.length_filter_le ..) (by rw [List.length_take]; omega)
              have fc : ((ks.take i).filter fun k => chgB (entOf es k).2.2 gs).length ≤ 20 := Nat.le_trans (List.length_filter_le ..) (by rw [List.length_take]; omega)
              have gl := hGe.2.2.1
              walk_at "rd"
              refine ⟨d, e.2.1, rfl, .inl ⟨_, Sum.inr (S k), .inl (hS _ _ St.dic), rfl, hval.symm⟩, ?_⟩
              rw [et]
              walk_at "rd"
              refine ix_T (same_sqt hS ht) (by rfl) ?_
              refine lcT_mk (same_sqt hS hpu) (fun D m H2 => Same H' H2 ∧ H2 D = some (.lst (tv ((e.2.2.1.take m).map (·.1))))) (fun D hD => ⟨same_upd hD, upd_same⟩) (fun D m H2 hD _ hP => same_sqt (hS.trans hP.1) hpu) (fun D m x H2 hD hxi hP => ?_) (fun Do H2 hDo hP => ?_)
              · obtain ⟨hS2, hH⟩ := hP
                obtain ⟨c, hc, hdc⟩ := all_at hau hxi
                have hi := (List.getElem?_eq_some_iff.mp hc).1
                obtain ⟨tc, rfl, htc⟩ := dp_ch hdc
                refine gt_T (same_sqt (hS.trans hS2) htc) rfl ?_
                refine x_gc ?_
                refine s_gn ?_
                refine x_gc ?_
                refine s_gn ?_
                refine x_gz ?_
                refine ⟨rfl, ?_⟩
                show tYes [some (.ref a), some (.int z), some (.ref j), some (.ref d), y4, some (.ref D5), some (.str (S k)), y7, y8, some (.ref pc), some (.ref pg), some (.ref dh), some (.ref dc), y13, some (.str (S c.1)), some (vlV c.2)] H2 _
                walk_at "rd"
                refine ⟨_, hH, Nat.lt_of_le_of_lt (show _ ≤ 200 by rw [tv_len, List.length_map, List.length_take]; omega) (by decide), same_mut hS2 hD, ?_⟩
                rw [upd_same, take_snoc hc, List.map_append, tv_app]
                rfl
              · obtain ⟨hS2, hOw⟩ := hP
                rw [hul, List.take_of_length_le (Nat.le_refl _)] at hOw
                have oT : AllT (e.2.2.1.map (·.1)) := fun l hl => by
                  obtain ⟨c, hc, rfl⟩ := List.mem_map.mp hl
                  exact (hGe.1.2 c hc).1.1
                have nO1 : Do ≠ dh := Ne.symm (ne_of_none h1 hDo)
                have nO2 : Do ≠ dc := Ne.symm (ne_of_none h2 hDo)
                have hS3 := hS.trans hS2
                replace hpp := hS2 _ _ hpp
                replace h1 := hS2 _ _ h1
                replace h2 := hS2 _ _ h2
                clear hS hS2 hDo
                refine s_gn ?_
                show Evl.tCut _ _ _ [some (.ref a), some (.int z), some (.ref j), some (.ref d), y4, some (.ref D5), some (.str (S k)), y7, y8, some (.ref pc), some (.ref pg), some (.ref dh), some (.ref dc), some (.ref Do), y14, y15] H2
                refine s_cut (fun σ' H3 => σ' = [some (.ref a), some (.int z), some (.ref j), some (.ref d), y4, some (.ref D5), some (.str (S k)), y7, y8, some (.ref pc), some (.ref pg), some (.ref dh), some (.ref dc), some (.ref Do), y14, y15] ∧ Same G6 H3 ∧ H3 p = some (.lst (tv ks)) ∧ H3 Do = some (.lst (tv (e.2.2.1.map (·.1)))) ∧ H3 dh = some (.lst (tv (if hasB e.2.2 keys = true then ((ks.take i).filter fun k => hasB (entOf es k).2.2 keys) ++ [k] else (ks.take i).filter fun k => hasB (entOf es k).2.2 keys))) ∧ H3 dc = some (.lst (tv ((ks.take i).filter fun k => chgB (entOf es k).2.2 gs)))) ?_ ?_
                · walk_at "rd"
                  refine lcL_mk (xs := tv keys) (lst_of (hS3 _ _ hH6)) (fun D m H3 => Same H2 H3 ∧ H3 D = some (.lst (tv ((keys.take m).filter (ownB e.2.2))))) (fun D hD => ⟨same_upd hD, upd_same⟩) (fun D m H3 hD _ hP => lst_of (hP.1 _ _ (hS3 _ _ hH6))) (fun D m x H3 hD hxi hP => ?_) (fun D H3 hD hP => ?_)
                  · obtain ⟨hS4, hH⟩ := hP
                    unfold tv at hxi
                    rw [List.getElem?_map] at hxi
                    cases hqi : keys[m]? with
                    | none => rw [hqi] at hxi; cases hxi
                    | some q1 =>
                      rw [hqi] at hxi
                      cases hxi
                      refine ⟨rfl, ?_⟩
                      walk_at "rd"
                      refine .inr ⟨Do, _, rfl, .inl (lst_of (hS4 _ _ hOw)), rfl, flat_tv _, ?_⟩
                      show ∃ k', V.bl (inV (.str (S q1)) (tv (e.2.2.1.map (·.1)))) = .bl k' ∧ _
                      rw [inV_tv]
                      have fl : ((keys.take m).filter (ownB e.2.2)).length ≤ 100 := Nat.le_trans (List.length_filter_le ..) (by rw [List.length_take]; omega)
                      have yes : ownB e.2.2 q1 = true → ∃ acc, H3 D = some (.lst acc) ∧ acc.length < sizeLine ∧ Same H2 (upd H3 D (.lst (acc ++ [V.str (S q1)]))) ∧ upd H3 D (.lst (acc ++ [V.str (S q1)])) D = some (.lst (tv ((keys.take (m + 1)).filter (ownB e.2.2)))) := fun z => by
                        refine ⟨_, hH, Nat.lt_of_le_of_lt (show _ ≤ 200 by rw [tv_len]; omega) (by decide), same_mut hS4 hD, ?_⟩
                        rw [upd_same, filt_snoc hqi, if_pos z, tv_app]
                        rfl
                      have no : ownB e.2.2 q1 = false → Same H2 H3 ∧ H3 D = some (.lst (tv ((keys.take (m + 1)).filter (ownB e.2.2)))) := fun z => by
                        rw [filt_snoc hqi, if_neg (by rw [z]; decide)]
                        exact ⟨hS4, hH⟩
                      walk_at "rd"
                      refine ite2' (fun z1 => ?_) (fun z1 => ?_)
                      · refine iteT ?_
                        walk_at "rd"
                        exact yes (by unfold ownB; rw [z1]; rfl)
                      · walk_at "rd"
                        refine ⟨d, e.2.1, rfl, .inl ⟨_, Sum.inr (S k), .inl (hS4 _ _ (hS3 _ _ St.dic)), rfl, hval.symm⟩, ?_⟩
                        rw [et]
                        walk_at "rd"
                        refine ix_T (same_sqt (hS3.trans hS4) ht) (by rfl) ?_
                        walk_at "rd"
                        refine ⟨q1, v, e.2.2.2, rfl, dp_mono (hS3.trans hS4) _ _ hv, ?_⟩
                        walk_at "rd"
                        refine ite2' (fun z2 => ?_) (fun z2 => ?_)
                        · walk_at "rd"
                          exact yes (by unfold ownB; rw [z2, Bool.or_true])
                        · exact no (by unfold ownB; rw [z1, z2]; rfl)
                  · obtain ⟨hS4, hH⟩ := hP
                    rw [tv_len, List.take_of_length_le (Nat.le_refl _)] at hH
                    walk_at "rd"
                    refine ⟨Nat.zero_le _, fun B hB => ?_⟩
                    have S5 := same_upd hB (o := .lst [])
                    have hS5 := hS4.trans S5
                    refine ne_nil_list (fun l hl => kT l ((List.mem_filter.mp hl).1)) (S5 _ _ hH) upd_same ?_
                    rw [any_filt]
                    show ∃ k', V.bl (hasB e.2.2 keys) = .bl k' ∧ _
                    generalize upd H3 B (.lst []) = H4 at hS5 ⊢
                    walk_at "rd"
                    refine ite2' (fun z1 => ?_) (fun z1 => ?_)
                    · walk_at "rd"
                      refine x_tyL (lst_of (hS5 _ _ h1)) ?_
                      walk_at "rd"
                      refine ap_L (hS5 _ _ h1) (by rw [tv_len]; omega) ?_
                      refine ⟨rfl, same_mut (hS3.trans hS5) N7, by rw [upd_ne ne2]; exact hS5 _ _ hpp, by rw [upd_ne nO1]; exact hS5 _ _ hOw, ?_, by rw [upd_ne (Ne.symm ne1)]; exact hS5 _ _ h2⟩
                      rw [upd_same, if_pos z1, tv_app]
                      rfl
                    · refine ⟨rfl, hS3.trans hS5, hS5 _ _ hpp, hS5 _ _ hOw, ?_, hS5 _ _ h2⟩
                      rw [if_neg (by rw [z1]; decide)]
                      exact hS5 _ _ h1
                · rintro σ' H3 ⟨rfl, hS4, hpp, hOw, h1, h2⟩
                  clear hS3
                  have cge : chgB e.2.2 gs = (e.2.2.1.map (·.1)).any fun l => gs.any (liesG l) := by rw [List.any_map]; rfl
                  generalize (if hasB e.2.2 keys = true then ((ks.take i).filter fun k => hasB (entOf es k).2.2 keys) ++ [k] else (ks.take i).filter fun k => hasB (entOf es k).2.2 keys) = hl1 at h1 ⊢
                  have oL : (e.2.2.1.map (·.1)).length ≤ 10 := by rw [List.length_map]; exact gl
                  generalize e.2.2.1.map (·.1) = own at hOw oT cge oL
                  walk_at "rd"
                  refine lcL_mk (xs := tv own) (lst_of hOw) (fun D m H4 => Same H3 H4 ∧ H4 D = some (.lst (tv ((own.take m).filter fun l => gs.any (liesG l))))) (fun D hD => ⟨same_upd hD, upd_same⟩) (fun D m H4 hD _ hP => lst_of (hP.1 _ _ hOw)) (fun D m x H4 hD hxi hP => ?_) (fun D H4 hD hP => ?_)
                  · obtain ⟨hS5, hH⟩ := hP
                    unfold tv at hxi
                    rw [List.getElem?_map] at hxi
                    cases hqi : own[m]? with
                    | none => rw [hqi] at hxi; cases hxi
                    | some q1 =>
                      rw [hqi] at hxi
                      cases hxi
                      refine ⟨rfl, ?_⟩
                      walk_at "rd"
                      have fl : ((own.take m).filter fun l => gs.any (liesG l)).length ≤ 100 := Nat.le_trans (List.length_filter_le ..) (by rw [List.length_take]; omega)
                      refine ⟨q1, .ref pg, gs, rfl, dp_mono (hS4.trans hS5) _ _ Dg, ?_⟩
                      walk_at "rd"
                      refine ite2' (fun z1 => ?_) (fun z1 => ?_)
                      · walk_at "rd"
                        refine ⟨_, hH, Nat.lt_of_le_of_lt (show _ ≤ 200 by rw [tv_len]; omega) (by decide), same_mut hS5 hD, ?_⟩
                        rw [upd_same, filt_snoc hqi, if_pos z1, tv_app]
                        rfl
                      · rw [filt_snoc hqi, if_neg (by rw [z1]; decide)]
                        exact ⟨hS5, hH⟩
                  · obtain ⟨hS5, hH⟩ := hP
                    rw [tv_len, List.take_of_length_le (Nat.le_refl _)] at hH
                    walk_at "rd"
                    refine ⟨Nat.zero_le _, fun B hB => ?_⟩
                    have S6 := same_upd hB (o := .lst [])
                    have hS6 := hS5.trans S6
                    refine ne_nil_list (fun l hl => oT l ((List.mem_filter.mp hl).1)) (S6 _ _ hH) upd_same ?_
                    rw [any_filt, ← cge]
                    generalize upd H4 B (.lst []) = H5 at hS6 ⊢
                    walk_at "rd"
                    refine ite2' (fun z1 => ?_) (fun z1 => ?_)
                    · walk_at "rd"
                      refine x_tyL (lst_of (hS6 _ _ h2)) ?_
                      walk_at "rd"
                      refine ap_L (hS6 _ _ h2) (by rw [tv_len]; omega) ?_
                      refine ⟨_, _, rfl, same_mut (hS4.trans hS6) N8, by rw [upd_ne ne3]; exact hS6 _ _ hpp, by rw [upd_ne ne1]; exact hS6 _ _ h1, ?_⟩
                      rw [upd_same, if_pos z1, tv_app]
                      rfl
                    · refine ⟨_, _, rfl, hS4.trans hS6, hS6 _ _ hpp, hS6 _ _ h1, ?_⟩
                      rw [if_neg (by rw [z1]; decide)]
                      exact hS6 _ _ h2
          · obtain ⟨y6, y13, rfl, hS, _, h1, h2⟩ := hV
            clear S68 E7 E8 E9 N7 N8 ne1 ne2 ne3
            rw [tv_len, List.take_of_length_le (Nat.le_refl _)] at h1 h2
            replace St := St.same hS
            replace Dc := dp_mono hS _ _ Dc
            replace Dg := dp_mono hS _ _ Dg
            clear hS hH6
            walk_at "rd"
            refine fun d7 hd7 => ?_
            have od7 : d7 ≠ d := Ne.symm (ne_of_none St.dic hd7)
            have S7 := same_upd hd7 (o := .dK [])
            have E7 : upd H' d7 (.dK []) d7 = some (.dK (([] : List En).map enK)) := upd_same
            generalize upd H' d7 (.dK []) = G10 at S7 E7
            refine s_gn ?_
            show tSeq _ _ _ [some (.ref a), some (.int z), some (.ref j), some (.ref d), y4, some (.ref D5), y6, some (.ref d7), y8, some (.ref pc), some (.ref pg), some (.ref dh), some (.ref dc), y13, y14, y15] G10
            walk_at "rd"
            refine ⟨d, _, es.map fun e => S e.1, true, rfl, rfl, .inl (S7 _ _ St.dic), by rw [List.map_map, List.map_map]; rfl, by rw [List.length_map]; omega, fun ys r hys hr => ?_⟩
            obtain ⟨ks2, rfl⟩ := strs_of ys
            have hpk2 : ks2.Perm (es.map (·.1)) := perm_S (by rw [List.map_map]; exact hys)
            clear hys
            have nd2 : ks2.Nodup := hpk2.nodup_iff.mpr nd
            have hkl2 : ks2.length = es.length := by
              have := hpk2.length_eq
              rw [List.length_map] at this
              exact this
            have S9 := same_upd hr (o := .lst ((ks2.map S).map V.str))
            have E9 : upd G10 r (.lst ((ks2.map S).map V.str)) r = some (.lst (tv ks2)) := by rw [upd_same, ← tv_eq]
            have ne4 : r ≠ d7 := Ne.symm (ne_of_none E7 hr)
            replace E7 := S9 _ _ E7
            have S79 := S7.trans S9
            generalize upd G10 r (.lst ((ks2.map S).map V.str)) = G11 at S79 E7 E9 ⊢
            clear S9 S7 hr
            refine forL_mk (xs := tv ks2) (lst_of E9) (fun i σ H2 => ∃ y6 : Option V, σ = [some (.ref a), some (.int z), some (.ref j), some (.ref d), y4, some (.ref D5), y6, some (.ref d7), y8, some (.ref pc), some (.ref pg), some (.ref dh), some (.ref dc), y13, y14, y15] ∧ Same H' H2 ∧ H2 r = some (.lst (tv ks2)) ∧ H2 d7 = some (.dK (((ks2.take i).map (entOf es)).map enK))) ⟨_, rfl, S79, E9, E7⟩ (fun i σ H2 _ hV => lst_of (by obtain ⟨_, _, _, e, _⟩ := hV; exact e)) (fun i x σ H2 hxi hV => ?_) (fun σ H2 hV => ?_)
            · obtain ⟨y6, rfl, hS, hrr, h7⟩ := hV
              unfold tv at hxi
              rw [List.getElem?_map] at hxi
              cases hki : ks2[i]? with
              | none => rw [hki] at hxi; cases hxi
              | some k =>
                rw [hki] at hxi
                cases hxi
                have hkm : k ∈ es.map (·.1) := hpk2.mem_iff.mp (List.mem_of_getElem? hki)
                obtain ⟨hem, hen⟩ := ent_name nd hkm
                have hval := en_val nd hem
                rw [hen] at hval
                have hnew : k ∉ ((ks2.take i).map (entOf es)).map (·.1) := by
                  rw [names_take nd fun q hq => hpk2.mem_iff.mp (List.mem_of_mem_take hq)]
                  exact nodup_take nd2 hki
                walk_at "rd"
                refine ⟨d, (entOf es k).2.1, rfl, .inl ⟨_, Sum.inr (S k), .inl (hS _ _ St.dic), rfl, hval.symm⟩, ?_⟩
                walk_at "rd"
                refine ⟨d7, _, rfl, .inl ⟨_, Sum.inr (S k), h7, rfl, Nat.lt_of_le_of_lt (show _ ≤ 100 by rw [List.length_map, List.length_map, List.length_take]; omega) (by decide), rfl⟩, _, rfl, same_mut hS hd7, by rw [upd_ne ne4]; exact hrr, ?_⟩
                rw [upd_same, put_E _ _ _ (entOf es k).2.2, putE_new hnew, take_snoc hki, List.map_append (f := entOf es)]
                have e1 : ((k, (entOf es k).2.1, (entOf es k).2.2) : En) = entOf es k := Prod.ext hen.symm rfl
                rw [e1]
                rfl
            · obtain ⟨y6, rfl, hS, _, h7⟩ := hV
              clear E7 E9 S79 ne4
              rw [tv_len, List.take_of_length_le (Nat.le_refl _)] at h7
              replace St := St.same hS
              replace Dc := dp_mono hS _ _ Dc
              replace Dg := dp_mono hS _ _ Dg
              replace h1 := hS _ _ h1
              replace h2 := hS _ _ h2
              have hp7 : (ks2.map (entOf es)).Perm es := by
                have := hpk2.map (entOf es)
                rw [ents_map nd] at this
                exact this
              have OK7 := St.un.perm hp7
              generalize ks2.map (entOf es) = es7 at h7 hp7 OK7
              clear hS hd7 hpk2 nd2 hkl2
              have nmT : ∀ {l : List (List Nat)}, (∀ x ∈ l, x ∈ ks) → AllT l := fun h x hx => by
                obtain ⟨e, he, rfl⟩ := List.mem_map.mp (hpk.mem_iff.mp (h x hx))
                exact hnT e he
              have nlen : ∀ f : List Nat → Bool, (ks.filter f).length ≤ 1000 := fun f => Nat.le_trans (List.length_filter_le ..) (by omega)
              have hcs : isChsD (chsD cs) = true := hGc.1
              walk_at "rd"
              refine ⟨d7, es7, .ref pc, chsD cs, rfl, h7, OK7, Dc, fun ds e => by cases e; rw [List.length_map]; omega, fun _ => ⟨cs, rfl, by omega, fun ns q1 H3 hS3 hq1 hpm hsn => ?_⟩, fun z => by rw [hcs] at z; cases z⟩
              rw [hks] at hpm
              have ens := nm_law nd hpk hsr hp7 hpm hsn
              walk_at "rd"
              refine tu_L (lst_of (hS3 _ _ h1)) fun q2 hq2 => ?_
              have S4 := same_upd hq2 (o := .tup (tv (ks.filter fun k => hasB (entOf es k).2.2 keys)))
              have D4 := dp_tvt (K := K) (show upd H3 q2 (.tup (tv (ks.filter fun k => hasB (entOf es k).2.2 keys))) q2 = some (.tup (tv (ks.filter fun k => hasB (entOf es k).2.2 keys))) from upd_same)
              have D3 := dp_tvt (K := K) (S4 _ _ hq1)
              rw [ens] at D3
              have S34 := hS3.trans S4
              generalize upd H3 q2 (.tup (tv (ks.filter fun k => hasB (entOf es k).2.2 keys))) = H4 at S34 D3 D4 ⊢
              clear S4 hS3 hq1 hq2 hpm hsn ens
              walk_at "rd"
              refine ⟨_, _, _, rfl, D3, D4, fine_tvs (nlen _) (nmT fun x hx => (List.mem_filter.mp hx).1) 3, fun H5 hS5 => ?_⟩
              replace S34 := S34.trans hS5
              replace St := St.same S34
              replace OK7 := OK7.mono S34
              replace h7 := S34 _ _ h7
              replace Dc := dp_mono S34 _ _ Dc
              replace Dg := dp_mono S34 _ _ Dg
              replace h2 := S34 _ _ h2
              clear S34 hS5 D3 D4 h1
              walk_at "rd"
              refine ⟨d7, es7, .ref pg, gs, rfl, h7, OK7, Dg, by omega, fun ns q1 H6 hS6 hq1 hpm hsn => ?_⟩
              have ens := nm_law nd hpk hsr hp7 hpm hsn
              walk_at "rd"
              refine tu_L (lst_of (hS6 _ _ h2)) fun q2 hq2 => ?_
              have S7 := same_upd hq2 (o := .tup (tv (ks.filter fun k => chgB (entOf es k).2.2 gs)))
              have D4 := dp_tvt (K := K) (show upd H6 q2 (.tup (tv (ks.filter fun k => chgB (entOf es k).2.2 gs))) q2 = some (.tup (tv (ks.filter fun k => chgB (entOf es k).2.2 gs))) from upd_same)
              have D3 := dp_tvt (K := K) (S7 _ _ hq1)
              rw [ens] at D3
              have S67 := hS6.trans S7
              generalize upd H6 q2 (.tup (tv (ks.filter fun k => chgB (entOf es k).2.2 gs))) = H7' at S67 D3 D4 ⊢
              clear S7 hS6 hq1 hq2 hpm hsn ens
              walk_at "rd"
              refine ⟨_, _, _, rfl, D3, D4, fine_tvs (nlen _) (nmT fun x hx => (List.mem_filter.mp hx).1) 3, fun H8 hS8 => ?_⟩
              replace S67 := S67.trans hS8
              replace St := St.same S67
              replace OK7 := OK7.mono S67
              replace h7 := S67 _ _ h7
              replace Dc := dp_mono S67 _ _ Dc
              clear S67 hS8 D3 D4 h2 Dg
              walk_at "rd"
              obtain ⟨pc2, xc, ec, hpc, hac⟩ := dp_tup' (ds := cs.map chD) Dc
              cases ec
              refine ⟨pc, xc, rfl, .inr hpc, fun t0 hq0 => ?_⟩
              obtain ⟨J, SS, MM, D0, _⟩ := mkM_L (K := K) (us := xc) (ds := cs.map chD) St.jar hq0 (ms_dps (ms1_nt St.jar) _ _ (tupDs_of fun d hd => by
                obtain ⟨c, _, rfl⟩ := List.mem_map.mp hd
                exact tup_ch c) hac)
              replace St := St.same SS
              replace OK7 := OK7.mono SS
              replace h7 := SS _ _ h7
              generalize upd H8 t0 (.lst xc) = B0 at J SS MM D0 St OK7 h7 ⊢
              clear hac hpc Dc
              walk_at "rd"
              refine ⟨by show 2 ≤ sizeLine; decide, fun t1 hq1 => ?_⟩
              obtain ⟨J, SS, MM, D1⟩ := mkM_T (K := K) (us := [V.str (S [98]), .str (S [120])]) (ds := [.str (S [98]), .str (S [120])]) St.jar hq1 (.cons (.str _) (.cons (.str _) .nil))
              replace St := St.same SS
              replace OK7 := OK7.mono SS
              replace h7 := SS _ _ h7
              generalize upd B0 t1 (.tup [V.str (S [98]), .str (S [120])]) = B1 at J SS MM D1 St OK7 h7 ⊢
              replace D0 := dp_mono MM _ _ D0
              walk_at "rd"
              refine ⟨by show 2 ≤ sizeLine; decide, fun t2 hq2 => ?_⟩
              obtain ⟨J, SS, MM, D2⟩ := mkM_T (K := K) (us := [V.str (S [97]), .str (S [120])]) (ds := [.str (S [97]), .str (S [120])]) St.jar hq2 (.cons (.str _) (.cons (.str _) .nil))
              replace St := St.same SS
              replace OK7 := OK7.mono SS
              replace h7 := SS _ _ h7
              generalize upd B1 t2 (.tup [V.str (S [97]), .str (S [120])]) = B2 at J SS MM D2 St OK7 h7 ⊢
              replace D0 := dp_mono MM _ _ D0
              replace D1 := dp_mono MM _ _ D1
              walk_at "rd"
              refine ⟨by show 2 ≤ sizeLine; decide, fun t3 hq3 => ?_⟩
              obtain ⟨J, SS, MM, D3⟩ := mkM_T (K := K) (us := [V.ref t1, .ref t2]) (ds := [chD ([98], some [120]), chD ([97], some [120])]) St.jar hq3 (.cons D1 (.cons D2 .nil))
              replace St := St.same SS
              replace OK7 := OK7.mono SS
              replace h7 := SS _ _ h7
              generalize upd B2 t3 (.tup [V.ref t1, .ref t2]) = B3 at J SS MM D3 St OK7 h7 ⊢
              replace D0 := dp_mono MM _ _ D0
              clear D1 D2
              walk_at "rd"
              refine ⟨by show 2 ≤ sizeLine; decide, fun t4 hq4 => ?_⟩
              obtain ⟨J, SS, MM, D4⟩ := mkM_T (K := K) (us := [V.str (S [97]), .str (S [120])]) (ds := [.str (S [97]), .str (S [120])]) St.jar hq4 (.cons (.str _) (.cons (.str _) .nil))
              replace St := St.same SS
              replace OK7 := OK7.mono SS
              replace h7 := SS _ _ h7
              generalize upd B3 t4 (.tup [V.str (S [97]), .str (S [120])]) = B4 at J SS MM D4 St OK7 h7 ⊢
              replace D0 := dp_mono MM _ _ D0
              replace D3 := dp_mono MM _ _ D3
              walk_at "rd"
              refine ⟨by show 2 ≤ sizeLine; decide, fun t5 hq5 => ?_⟩
              obtain ⟨J, SS, MM, D5x⟩ := mkM_T (K := K) (us := [V.str (S [97]), .non]) (ds := [.str (S [97]), .none]) St.jar hq5 (.cons (.str _) (.cons .non .nil))
              replace St := St.same SS
              replace OK7 := OK7.mono SS
              replace h7 := SS _ _ h7
              generalize upd B4 t5 (.tup [V.str (S [97]), .non]) = B5 at J SS MM D5x St OK7 h7 ⊢
              replace D0 := dp_mono MM _ _ D0
              replace D3 := dp_mono MM _ _ D3
              replace D4 := dp_mono MM _ _ D4
              walk_at "rd"
              refine ⟨by show 2 ≤ sizeLine; decide, fun t6 hq6 => ?_⟩
              obtain ⟨J, SS, MM, D6⟩ := mkM_T (K := K) (us := [V.ref t4, .ref t5]) (ds := [chD ([97], some [120]), chD ([97], none)]) St.jar hq6 (.cons D4 (.cons D5x .nil))
              replace St := St.same SS
              replace OK7 := OK7.mono SS
              replace h7 := SS _ _ h7
              generalize upd B5 t6 (.tup [V.ref t4, .ref t5]) = B6 at J SS MM D6 St OK7 h7 ⊢
              replace D0 := dp_mono MM _ _ D0
              replace D3 := dp_mono MM _ _ D3
              clear D4 D5x
              walk_at "rd"
              refine ⟨by show 1 ≤ sizeLine; decide, fun t7 hq7 => ?_⟩
              obtain ⟨J, SS, MM, D7⟩ := mkM_T (K := K) (us := [V.str (S [97])]) (ds := [.str (S [97])]) St.jar hq7 (.cons (.str _) .nil)
              replace St := St.same SS
              replace OK7 := OK7.mono SS
              replace h7 := SS _ _ h7
              generalize upd B6 t7 (.tup [V.str (S [97])]) = B7 at J SS MM D7 St OK7 h7 ⊢
              replace D0 := dp_mono MM _ _ D0
              replace D3 := dp_mono MM _ _ D3
              replace D6 := dp_mono MM _ _ D6
              walk_at "rd"
              refine ⟨by show 1 ≤ sizeLine; decide, fun t8 hq8 => ?_⟩
              obtain ⟨J, SS, MM, D8⟩ := mkM_T (K := K) (us := [V.ref t7]) (ds := [.tuple [.str (S [97])]]) St.jar hq8 (.cons D7 .nil)
              replace St := St.same SS
              replace OK7 := OK7.mono SS
              replace h7 := SS _ _ h7
              generalize upd B7 t8 (.tup [V.ref t7]) = B8 at J SS MM D8 St OK7 h7 ⊢
              replace D0 := dp_mono MM _ _ D0
              replace D3 := dp_mono MM _ _ D3
              replace D6 := dp_mono MM _ _ D6
              walk_at "rd"
              refine ⟨by show 2 ≤ sizeLine; decide, fun t9 hq9 => ?_⟩
              obtain ⟨J, SS, MM, D9⟩ := mkM_T (K := K) (us := [V.str (S [97]), .int 1]) (ds := [.str (S [97]), .int 1]) St.jar hq9 (.cons (.str _) (.cons (.int _) .nil))
              replace St := St.same SS
              replace OK7 := OK7.mono SS
              replace h7 := SS _ _ h7
              generalize upd B8 t9 (.tup [V.str (S [97]), .int 1]) = B9 at J SS MM D9 St OK7 h7 ⊢
              replace D0 := dp_mono MM _ _ D0
              replace D3 := dp_mono MM _ _ D3
              replace D6 := dp_mono MM _ _ D6
              replace D8 := dp_mono MM _ _ D8
              walk_at "rd"
              refine ⟨by show 1 ≤ sizeLine; decide, fun t10 hq10 => ?_⟩
              obtain ⟨J, SS, MM, D10⟩ := mkM_T (K := K) (us := [V.ref t9]) (ds := [.tuple [.str (S [97]), .int 1]]) St.jar hq10 (.cons D9 .nil)
              replace St := St.same SS
              replace OK7 := OK7.mono SS
              replace h7 := SS _ _ h7
              generalize upd B9 t10 (.tup [V.ref t9]) = B10 at J SS MM D10 St OK7 h7 ⊢
              replace D0 := dp_mono MM _ _ D0
              replace D3 := dp_mono MM _ _ D3
              replace D6 := dp_mono MM _ _ D6
              replace D8 := dp_mono MM _ _ D8
              walk_at "rd"
              refine ⟨by show 6 ≤ sizeLine; decide, fun t11 hq11 => ?_⟩
              have A6 : DpAll K (ms [j] B10) [V.ref t0, .ref t3, .ref t6, .ref t8, .non, .ref t10] (badD cs) := .cons D0 (.cons D3 (.cons D6 (.cons D8 (.cons .non (.cons D10 .nil)))))
              obtain ⟨J, SS, MM, _, Q6⟩ := mkM_L (K := K) St.jar hq11 A6
              replace St := St.same SS
              replace OK7 := OK7.mono SS
              replace h7 := SS _ _ h7
              replace A6 := dpAll_mono MM _ _ A6
              generalize upd B10 t11 (.lst [V.ref t0, .ref t3, .ref t6, .ref t8, .non, .ref t10]) = B11 at J SS MM A6 Q6 St OK7 h7 ⊢
              clear D0 D3 D6 D8 D10 D7 D9 MM SS
              walk_at "rd"
              refine ⟨j, 6, rfl, St.jar, by decide, by decide, fun r B12 r0 r1 hJ12 hF12 => ?_⟩
              have oj7 : d7 ≠ j := by
                rintro rfl
                obtain ⟨x1, x2, x3, e, _⟩ := J
                rw [h7] at e
                cases e
              have OKm : EnOk K (ms [j] B11) es7 := OK7.at fun x v hx hv => ms_dp (ms1_nt J) x v hx hv
              have m12 := ms1_fr hF12
              replace OK7 := (OKm.mono m12).mono ms_le
              replace h7 := hF12 _ _ oj7 oj7 h7
              replace St := St.draw hJ12 hF12
              obtain ⟨n, rfl, hn⟩ : ∃ n : Nat, r = n ∧ n < 6 := ⟨r.toNat, by omega, by omega⟩
              obtain ⟨v, ev, dv⟩ := dpAll_get (dpAll_mono m12 _ _ A6) (i := n) hn
              have zb := bad_no cs _ (List.getElem_mem hn)
              refine ix_L (ms_le.seq (m12.seq Q6)) (atI_nat ev) ?_
              clear A6 Q6 ev OKm m12 hF12 hJ12 J
              walk_at "rd"
              refine ⟨d7, es7, v, _, rfl, h7, OK7, ms_un dv, zb.2, zb.1, fun B13 hS13 => ?_⟩
              replace St := St.same hS13
              replace OK7 := OK7.mono hS13
              replace h7 := hS13 _ _ h7
              clear dv zb hS13
              walk_at "rd"
              refine ⟨d7, _, es7.map fun e => S e.1, rfl, .inl h7, by rw [List.map_map, List.map_map]; rfl, by rw [List.length_map, hp7.length_eq]; omega, fun ys1 u1 hy1 hs1 hu1 => ?_⟩
              obtain ⟨l1, rfl⟩ := strs_of ys1
              have E1 : upd B13 u1 (.lst ((l1.map S).map V.str)) u1 = some (.lst (tv l1)) := by rw [upd_same, ← tv_eq]
              have S1 := same_upd hu1 (o := .lst ((l1.map S).map V.str))
              replace St := St.same S1
              replace OK7 := OK7.mono S1
              replace h7 := S1 _ _ h7
              generalize upd B13 u1 (.lst ((l1.map S).map V.str)) = B14 at E1 St OK7 h7 ⊢
              clear S1 hu1
              walk_at "rd"
              refine ⟨d, _, es.map fun e => S e.1, rfl, .inl St.dic, by rw [List.map_map, List.map_map]; rfl, by rw [List.length_map]; omega, fun ys2 u2 hy2 hs2 hu2 => ?_⟩
              obtain ⟨l2, rfl⟩ := strs_of ys2
              have E2 : upd B14 u2 (.lst ((l2.map S).map V.str)) u2 = some (.lst (tv l2)) := by rw [upd_same, ← tv_eq]
              have S2 := same_upd hu2 (o := .lst ((l2.map S).map V.str))
              replace St := St.same S2
              replace OK7 := OK7.mono S2
              replace h7 := S2 _ _ h7
              replace E1 := S2 _ _ E1
              generalize upd B14 u2 (.lst ((l2.map S).map V.str)) = B15 at E1 E2 St OK7 h7 ⊢
              clear S2 hu2
              have q1 : l1.Perm (es7.map (·.1)) := perm_S (by rw [List.map_map]; exact hy1)
              have q2 : l2.Perm (es.map (·.1)) := perm_S (by rw [List.map_map]; exact hy2)
              have e12 : l1 = l2 := pw_uniq ((q1.trans (hp7.map (·.1))).trans q2.symm) (sorted_pw hs1) (sorted_pw hs2)
              subst e12
              have lT : AllT l1 := fun x hx => by
                obtain ⟨e, he, rfl⟩ := List.mem_map.mp (q2.mem_iff.mp hx)
                exact hnT e he
              have shl := shaped_strs l1 lT
              walk_at "rd"
              refine ne_d (dp_tvl E1) (dp_tvl E2) shl shl ?_
              rw [eqv_same shl]
              clear E1 E2 hy1 hy2 hs1 hs2 q1 q2 shl lT
              walk_at "rd"
              refine x_lockE St.dic True.intro fun od => ?_
              have OKl : EnOk K (upd B15 d (.frz od (.dK (es.map enK)))) es := St.un.at fun x v hx h => dp_lock St.dic x v hx h
              have hd3 : upd B15 d (.frz od (.dK (es.map enK))) d = some (.frz od (.dK (es.map enK))) := upd_same
              have h73 : upd B15 d (.frz od (.dK (es.map enK))) d7 = some (.dK (es7.map enK)) := by rw [upd_ne od7]; exact h7
              have back : ∀ G, Same (upd B15 d (.frz od (.dK (es.map enK)))) G → Same B15 (upd G d (.dK (es.map enK))) := fun G h => same_back St.dic h
              generalize upd B15 d (.frz od (.dK (es.map enK))) = B16 at OKl hd3 h73 back ⊢
              have n7 := OK7.nd
              refine lcK_mk (i := 3) (d := d) (o := od) rfl hd3 (fun D n G => Same B16 G ∧ G D = some (.lst (tv []))) (fun D hD => ⟨same_upd hD, upd_same⟩) (fun D n G hD hP => hP.1 _ _ hd3) (fun D n k v G hD hi hP => ?_) (fun D G hD hP => ?_)
              · obtain ⟨hS, hH⟩ := hP
                obtain ⟨e, he, rfl, rfl⟩ := en_at hi
                have hem := List.mem_of_getElem? he
                refine s_gn ?_
                refine ⟨rfl, ?_⟩
                show tNot _ [some (.ref a), some (.int z), some (.ref j), some (.ref d), y4, some (.ref D5), some (.str (S e.1)), some (.ref d7), _, some (.ref pc), some (.ref pg), some (.ref dh), some (.ref dc), y13, y14, y15] G _
                walk_at "rd"
                refine ⟨d7, e.2.1, rfl, .inl ⟨_, Sum.inr (S e.1), .inl (hS _ _ h73), rfl, (en_val n7 (hp7.mem_iff.mpr hem)).symm⟩, ?_⟩
                walk_at "rd"
                refine ⟨d, e.2.1, rfl, .inl ⟨_, Sum.inr (S e.1), .inr ⟨od, hS _ _ hd3⟩, rfl, (en_val nd hem).symm⟩, ?_⟩
                walk_at "rd"
                refine ⟨_, _, _, rfl, dp_mono hS _ _ (OKl.dp e hem), dp_mono hS _ _ (OKl.dp e hem), fine_hdD (St.good e hem) 1, fun G2 hS2 => ?_⟩
                walk_at "rd"
                exact ⟨hS.trans hS2, hS2 _ _ hH⟩
              · obtain ⟨hS, hH⟩ := hP
                refine ⟨hS _ _ hd3, ?_⟩
                have hHD : upd G d (.dK (es.map enK)) D = some (.lst (tv [])) := by
                  rw [upd_ne (fun z => by rw [z, hd3] at hD; cases hD)]
                  exact hH
                have S16 := back G hS
                generalize upd G d (.dK (es.map enK)) = B17 at hHD S16 ⊢
                walk_at "rd"
                refine ⟨Nat.zero_le _, fun B hB => ?_⟩
                have S17 := same_upd hB (o := .lst [])
                refine ne_nil_list (ls := []) (fun _ h => by cases h) (S17 _ _ hHD) upd_same ?_
                walk_at "rd"
                exact ⟨_, _, _, _, _, _, _, _, _, _, _, _, _, _, _, rfl, hS'.trans ((St.fr.trans (Frm.of (S16.trans S17))).same hS7 hj hj)⟩
    · obtain ⟨y1, y2, y3, y4, y5, y6, y7, y8, y9, y10, y11, y12, y13, y14, y15, rfl, hS'⟩ := hV
      walk_at "rd"
      exact q _
end
end My

set_option Elab.async false
set_option linter.all false
set_option maxRecDepth 100000
set_option maxHeartbeats 1000000
namespace My
open PySem PySem.Spec PyProof.Rows L2
theorem rel_kb_held_names_0 {vs : List V} {us : List Value} {zs : List V} {ws : List Value} (r1 : Vals vs us) (r2 : Vals zs ws) : Vals (gV_kb_held_names_0 vs zs) (g_kb_held_names_0 us ws) := by
  cases r1 with
  | cons _ _ => exact .nil
  | nil =>
    cases r2 with
    | nil => exact .nil
    | cons y0 r2 =>
      cases r2 with
      | nil => exact .nil
      | cons y1 r2 =>
        cases r2 with
        | cons _ _ => exact .nil
        | nil =>
          exact (.cons y1 (.cons y0 .nil))

theorem kbm_kb_held_names_0 {K : PySem.W.Frag} {f : Addr} {fd : FuncData} (F : Fun K "held_names" "held_names" s_held_names f fd) : KBinds K fd ["holds", "changes"] ["changes", "holds"] g_kb_held_names_0 gV_kb_held_names_0 := by
  obtain ⟨oc, od, kV, doc, pm, an, cdv, ct, osl, rfl, lk, hcd⟩ := F.ex
  refine ⟨fun s us ws _ hl => ?_, rel_kb_held_names_0⟩
  have hp : ∃ y0 y1, us = [] ∧ ws = [y0, y1] := by
    unfold g_kb_held_names_0 at hl
    split at hl
    · exact ⟨_, _, rfl, rfl⟩
    · cases hl
  obtain ⟨y0, y1, rfl, rfl⟩ := hp
  exact BindsTo.of_eq rfl
theorem rel_kb_changing_names_0 {vs : List V} {us : List Value} {zs : List V} {ws : List Value} (r1 : Vals vs us) (r2 : Vals zs ws) : Vals (gV_kb_changing_names_0 vs zs) (g_kb_changing_names_0 us ws) := by
  cases r1 with
  | cons _ _ => exact .nil
  | nil =>
    cases r2 with
    | nil => exact .nil
    | cons y0 r2 =>
      cases r2 with
      | nil => exact .nil
      | cons y1 r2 =>
        cases r2 with
        | cons _ _ => exact .nil
        | nil =>
          exact (.cons y1 (.cons y0 .nil))

theorem kbm_kb_changing_names_0 {K : PySem.W.Frag} {f : Addr} {fd : FuncData} (F : Fun K "changing_names" "changing_names" s_changing_names f fd) : KBinds K fd ["holds", "guards"] ["guards", "holds"] g_kb_changing_names_0 gV_kb_changing_names_0 := by
  obtain ⟨oc, od, kV, doc, pm, an, cdv, ct, osl, rfl, lk, hcd⟩ := F.ex
  refine ⟨fun s us ws _ hl => ?_, rel_kb_changing_names_0⟩
  have hp : ∃ y0 y1, us = [] ∧ ws = [y0, y1] := by
    unfold g_kb_changing_names_0 at hl
    split at hl
    · exact ⟨_, _, rfl, rfl⟩
    · cases hl
  obtain ⟨y0, y1, rfl, rfl⟩ := hp
  exact BindsTo.of_eq rfl
theorem exm_pair {K : PySem.W.Frag} {R S : Addr} {b : Bool} (h1 : PySem.W.subIn K (.ref S) (.type "BaseException") = some true) (h2 : PySem.W.isClsIn K S = true) (h3 : PySem.W.typeIn K (.ref S) = some (.type "type")) (h4 : PySem.W.subIn K (.ref R) (.ref S) = some b) :
    PySem.W.exmOne K (.ref R) (.ref S) = some b := by
  have e1 : (PySem.W.subIn K (.ref S) (.type "BaseException") == some true) = true := by rw [h1] <;> rfl
  have e2 : ((PySem.W.clsIn K S).isSome && PySem.W.typeIn K (.ref S) == some (.type "type")) = true := by
    have h2' : (PySem.W.clsIn K S).isSome = true := h2
    rw [h2', h3] <;> rfl
  show (if (PySem.W.subIn K (.ref S) (.type "BaseException") == some true) = true then (if ((PySem.W.clsIn K S).isSome && PySem.W.typeIn K (.ref S) == some (.type "type")) = true then PySem.W.subIn K (.ref R) (.ref S) else none) else none) = some b
  rw [if_pos e1, if_pos e2]
  exact h4
def fx_mk {K : PySem.W.Frag} {h : Heap} {mg : Str → Option Value} (X : K.In h) (G : h.Ns mainGlobals mg)
    {f0 : Addr} {od0 an0 : Option Addr} {sl0 : Array (Option Value)} {oc0 kV0 dc0 pm0 cd0 ct0 : Value}
    (a0 : PySem.W.nsIn K mainGlobals "is_text" = some (some (.ref f0))) (l0 : K.lookup f0 = some ⟨oc0, od0, .func (PySem.W.fnOf "is_text" "is_text" (defArgs s_is_text) (defBody s_is_text) (defScope s_is_text) .none kV0 dc0 pm0 an0 cd0 ct0), sl0⟩) (c0 : PySem.W.codeIn K cd0 "is_text" = true) (k0 : PySem.W.keepIn K (.ref f0) = true)
    {f1 : Addr} {od1 an1 : Option Addr} {sl1 : Array (Option Value)} {oc1 kV1 dc1 pm1 cd1 ct1 : Value}
    (a1 : PySem.W.nsIn K mainGlobals "is_changes" = some (some (.ref f1))) (l1 : K.lookup f1 = some ⟨oc1, od1, .func (PySem.W.fnOf "is_changes" "is_changes" (defArgs s_is_changes) (defBody s_is_changes) (defScope s_is_changes) .none kV1 dc1 pm1 an1 cd1 ct1), sl1⟩) (c1 : PySem.W.codeIn K cd1 "is_changes" = true) (k1 : PySem.W.keepIn K (.ref f1) = true)
    {f2 : Addr} {od2 an2 : Option Addr} {sl2 : Array (Option Value)} {oc2 kV2 dc2 pm2 cd2 ct2 : Value}
    (a2 : PySem.W.nsIn K mainGlobals "is_change" = some (some (.ref f2))) (l2 : K.lookup f2 = some ⟨oc2, od2, .func (PySem.W.fnOf "is_change" "is_change" (defArgs s_is_change) (defBody s_is_change) (defScope s_is_change) .none kV2 dc2 pm2 an2 cd2 ct2), sl2⟩) (c2 : PySem.W.codeIn K cd2 "is_change" = true) (k2 : PySem.W.keepIn K (.ref f2) = true)
    {f3 : Addr} {od3 an3 : Option Addr} {sl3 : Array (Option Value)} {oc3 kV3 dc3 pm3 cd3 ct3 : Value}
    (a3 : PySem.W.nsIn K mainGlobals "check_changes" = some (some (.ref f3))) (l3 : K.lookup f3 = some ⟨oc3, od3, .func (PySem.W.fnOf "check_changes" "check_changes" (defArgs s_check_changes) (defBody s_check_changes) (defScope s_check_changes) .none kV3 dc3 pm3 an3 cd3 ct3), sl3⟩) (c3 : PySem.W.codeIn K cd3 "check_changes" = true) (k3 : PySem.W.keepIn K (.ref f3) = true)
    {f4 : Addr} {od4 an4 : Option Addr} {sl4 : Array (Option Value)} {oc4 kV4 dc4 pm4 cd4 ct4 : Value}
    (a4 : PySem.W.nsIn K mainGlobals "lies_in" = some (some (.ref f4))) (l4 : K.lookup f4 = some ⟨oc4, od4, .func (PySem.W.fnOf "lies_in" "lies_in" (defArgs s_lies_in) (defBody s_lies_in) (defScope s_lies_in) .none kV4 dc4 pm4 an4 cd4 ct4), sl4⟩) (c4 : PySem.W.codeIn K cd4 "lies_in" = true) (k4 : PySem.W.keepIn K (.ref f4) = true)
    {f5 : Addr} {od5 an5 : Option Addr} {sl5 : Array (Option Value)} {oc5 kV5 dc5 pm5 cd5 ct5 : Value}
    (a5 : PySem.W.nsIn K mainGlobals "held_names" = some (some (.ref f5))) (l5 : K.lookup f5 = some ⟨oc5, od5, .func (PySem.W.fnOf "held_names" "held_names" (defArgs s_held_names) (defBody s_held_names) (defScope s_held_names) .none kV5 dc5 pm5 an5 cd5 ct5), sl5⟩) (c5 : PySem.W.codeIn K cd5 "held_names" = true) (k5 : PySem.W.keepIn K (.ref f5) = true)
    {f6 : Addr} {od6 an6 : Option Addr} {sl6 : Array (Option Value)} {oc6 kV6 dc6 pm6 cd6 ct6 : Value}
    (a6 : PySem.W.nsIn K mainGlobals "has_any" = some (some (.ref f6))) (l6 : K.lookup f6 = some ⟨oc6, od6, .func (PySem.W.fnOf "has_any" "has_any" (defArgs s_has_any) (defBody s_has_any) (defScope s_has_any) .none kV6 dc6 pm6 an6 cd6 ct6), sl6⟩) (c6 : PySem.W.codeIn K cd6 "has_any" = true) (k6 : PySem.W.keepIn K (.ref f6) = true)
    {f7 : Addr} {od7 an7 : Option Addr} {sl7 : Array (Option Value)} {oc7 kV7 dc7 pm7 cd7 ct7 : Value}
    (a7 : PySem.W.nsIn K mainGlobals "lies_in_any" = some (some (.ref f7))) (l7 : K.lookup f7 = some ⟨oc7, od7, .func (PySem.W.fnOf "lies_in_any" "lies_in_any" (defArgs s_lies_in_any) (defBody s_lies_in_any) (defScope s_lies_in_any) .none kV7 dc7 pm7 an7 cd7 ct7), sl7⟩) (c7 : PySem.W.codeIn K cd7 "lies_in_any" = true) (k7 : PySem.W.keepIn K (.ref f7) = true)
    {f8 : Addr} {od8 an8 : Option Addr} {sl8 : Array (Option Value)} {oc8 kV8 dc8 pm8 cd8 ct8 : Value}
    (a8 : PySem.W.nsIn K mainGlobals "changing_names" = some (some (.ref f8))) (l8 : K.lookup f8 = some ⟨oc8, od8, .func (PySem.W.fnOf "changing_names" "changing_names" (defArgs s_changing_names) (defBody s_changing_names) (defScope s_changing_names) .none kV8 dc8 pm8 an8 cd8 ct8), sl8⟩) (c8 : PySem.W.codeIn K cd8 "changing_names" = true) (k8 : PySem.W.keepIn K (.ref f8) = true)
    {f9 : Addr} {od9 an9 : Option Addr} {sl9 : Array (Option Value)} {oc9 kV9 dc9 pm9 cd9 ct9 : Value}
    (a9 : PySem.W.nsIn K mainGlobals "_law_well" = some (some (.ref f9))) (l9 : K.lookup f9 = some ⟨oc9, od9, .func (PySem.W.fnOf "_law_well" "_law_well" (defArgs s__law_well) (defBody s__law_well) (defScope s__law_well) .none kV9 dc9 pm9 an9 cd9 ct9), sl9⟩) (c9 : PySem.W.codeIn K cd9 "_law_well" = true) (k9 : PySem.W.keepIn K (.ref f9) = true)
    {f10 : Addr} {od10 an10 : Option Addr} {sl10 : Array (Option Value)} {oc10 kV10 dc10 pm10 cd10 ct10 : Value}
    (a10 : PySem.W.nsIn K mainGlobals "_law_draw" = some (some (.ref f10))) (l10 : K.lookup f10 = some ⟨oc10, od10, .func (PySem.W.fnOf "_law_draw" "_law_draw" (defArgs s__law_draw) (defBody s__law_draw) (defScope s__law_draw) .none kV10 dc10 pm10 an10 cd10 ct10), sl10⟩) (c10 : PySem.W.codeIn K cd10 "_law_draw" = true) (k10 : PySem.W.keepIn K (.ref f10) = true)
    {f11 : Addr} {od11 an11 : Option Addr} {sl11 : Array (Option Value)} {oc11 kV11 dc11 pm11 cd11 ct11 : Value}
    (a11 : PySem.W.nsIn K mainGlobals "_law_same" = some (some (.ref f11))) (l11 : K.lookup f11 = some ⟨oc11, od11, .func (PySem.W.fnOf "_law_same" "_law_same" (defArgs s__law_same) (defBody s__law_same) (defScope s__law_same) .none kV11 dc11 pm11 an11 cd11 ct11), sl11⟩) (c11 : PySem.W.codeIn K cd11 "_law_same" = true) (k11 : PySem.W.keepIn K (.ref f11) = true)
    {f12 : Addr} {od12 an12 : Option Addr} {sl12 : Array (Option Value)} {oc12 kV12 dc12 pm12 cd12 ct12 : Value}
    (a12 : PySem.W.nsIn K mainGlobals "_law_key" = some (some (.ref f12))) (l12 : K.lookup f12 = some ⟨oc12, od12, .func (PySem.W.fnOf "_law_key" "_law_key" (defArgs s__law_key) (defBody s__law_key) (defScope s__law_key) .none kV12 dc12 pm12 an12 cd12 ct12), sl12⟩) (c12 : PySem.W.codeIn K cd12 "_law_key" = true) (k12 : PySem.W.keepIn K (.ref f12) = true)
    {f13 : Addr} {od13 an13 : Option Addr} {sl13 : Array (Option Value)} {oc13 kV13 dc13 pm13 cd13 ct13 : Value}
    (a13 : PySem.W.nsIn K mainGlobals "_law_changes" = some (some (.ref f13))) (l13 : K.lookup f13 = some ⟨oc13, od13, .func (PySem.W.fnOf "_law_changes" "_law_changes" (defArgs s__law_changes) (defBody s__law_changes) (defScope s__law_changes) .none kV13 dc13 pm13 an13 cd13 ct13), sl13⟩) (c13 : PySem.W.codeIn K cd13 "_law_changes" = true) (k13 : PySem.W.keepIn K (.ref f13) = true)
    {f14 : Addr} {od14 an14 : Option Addr} {sl14 : Array (Option Value)} {oc14 kV14 dc14 pm14 cd14 ct14 : Value}
    (a14 : PySem.W.nsIn K mainGlobals "_law_guards" = some (some (.ref f14))) (l14 : K.lookup f14 = some ⟨oc14, od14, .func (PySem.W.fnOf "_law_guards" "_law_guards" (defArgs s__law_guards) (defBody s__law_guards) (defScope s__law_guards) .none kV14 dc14 pm14 an14 cd14 ct14), sl14⟩) (c14 : PySem.W.codeIn K cd14 "_law_guards" = true) (k14 : PySem.W.keepIn K (.ref f14) = true)
    {f15 : Addr} {od15 an15 : Option Addr} {sl15 : Array (Option Value)} {oc15 kV15 dc15 pm15 cd15 ct15 : Value}
    (a15 : PySem.W.nsIn K mainGlobals "_law_lies" = some (some (.ref f15))) (l15 : K.lookup f15 = some ⟨oc15, od15, .func (PySem.W.fnOf "_law_lies" "_law_lies" (defArgs s__law_lies) (defBody s__law_lies) (defScope s__law_lies) .none kV15 dc15 pm15 an15 cd15 ct15), sl15⟩) (c15 : PySem.W.codeIn K cd15 "_law_lies" = true) (k15 : PySem.W.keepIn K (.ref f15) = true)
    {f16 : Addr} {od16 an16 : Option Addr} {sl16 : Array (Option Value)} {oc16 kV16 dc16 pm16 cd16 ct16 : Value}
    (a16 : PySem.W.nsIn K mainGlobals "_law_is_refused" = some (some (.ref f16))) (l16 : K.lookup f16 = some ⟨oc16, od16, .func (PySem.W.fnOf "_law_is_refused" "_law_is_refused" (defArgs s__law_is_refused) (defBody s__law_is_refused) (defScope s__law_is_refused) .none kV16 dc16 pm16 an16 cd16 ct16), sl16⟩) (c16 : PySem.W.codeIn K cd16 "_law_is_refused" = true) (k16 : PySem.W.keepIn K (.ref f16) = true)
    {f17 : Addr} {od17 an17 : Option Addr} {sl17 : Array (Option Value)} {oc17 kV17 dc17 pm17 cd17 ct17 : Value}
    (a17 : PySem.W.nsIn K mainGlobals "law" = some (some (.ref f17))) (l17 : K.lookup f17 = some ⟨oc17, od17, .func (PySem.W.fnOf "law" "law" (defArgs s_law) (defBody s_law) (defScope s_law) .none kV17 dc17 pm17 an17 cd17 ct17), sl17⟩) (c17 : PySem.W.codeIn K cd17 "law" = true) (k17 : PySem.W.keepIn K (.ref f17) = true)
    (z0 : PySem.W.nsIn K mainGlobals "abs" = some none)
    (z1 : PySem.W.nsIn K mainGlobals "all" = some none)
    (z2 : PySem.W.nsIn K mainGlobals "any" = some none)
    (z3 : PySem.W.nsIn K mainGlobals "int" = some none)
    (z4 : PySem.W.nsIn K mainGlobals "isinstance" = some none)
    (z5 : PySem.W.nsIn K mainGlobals "len" = some none)
    (z6 : PySem.W.nsIn K mainGlobals "list" = some none)
    (z7 : PySem.W.nsIn K mainGlobals "max" = some none)
    (z8 : PySem.W.nsIn K mainGlobals "range" = some none)
    (z9 : PySem.W.nsIn K mainGlobals "sorted" = some none)
    (z10 : PySem.W.nsIn K mainGlobals "str" = some none)
    (z11 : PySem.W.nsIn K mainGlobals "tuple" = some none)
    (z12 : PySem.W.nsIn K mainGlobals "type" = some none)
    (z13 : PySem.W.nsIn K mainGlobals "zip" = some none)
    {x_InvalidChanges : Addr} (xa_InvalidChanges : PySem.W.nsIn K mainGlobals "InvalidChanges" = some (some (.ref x_InvalidChanges))) (xe_InvalidChanges : PySem.W.excIn K x_InvalidChanges [.type "ValueError", .type "Exception", .type "BaseException", .type "object"] "ValueError.__new__" = true) (xk_InvalidChanges : PySem.W.keepIn K (.ref x_InvalidChanges) = true) (xs_InvalidChanges : PySem.W.subIn K (.ref x_InvalidChanges) (.type "BaseException") = some true) (xt_InvalidChanges : PySem.W.typeIn K (.ref x_InvalidChanges) = some (.type "type")) (xy_InvalidChanges : PySem.W.subIn K (.ref x_InvalidChanges) (.type "BaseException") = some true) (xi_InvalidChanges : PySem.W.isClsIn K x_InvalidChanges = true) (xz_InvalidChanges : PySem.W.typeIn K (.ref x_InvalidChanges) = some (.type "type"))
    (xp_InvalidChanges_InvalidChanges : PySem.W.subIn K (.ref x_InvalidChanges) (.ref x_InvalidChanges) = some true) : Fx K mg :=
  {a_is_text := f0, fd_is_text := _, F_is_text := fun_mk (st := s_is_text) l0 c0 k0, g_is_text := PySem.W.mg_of X G a0, b_is_text := (fun_mk (st := s_is_text) l0 c0 k0).binds (ps := ["value"]) fun _ _ _ _ _ _ us hl => match us, hl with | [_], _ => rfl,
    a_is_changes := f1, fd_is_changes := _, F_is_changes := fun_mk (st := s_is_changes) l1 c1 k1, g_is_changes := PySem.W.mg_of X G a1, b_is_changes := (fun_mk (st := s_is_changes) l1 c1 k1).binds (ps := ["value"]) fun _ _ _ _ _ _ us hl => match us, hl with | [_], _ => rfl,
    a_is_change := f2, fd_is_change := _, F_is_change := fun_mk (st := s_is_change) l2 c2 k2, g_is_change := PySem.W.mg_of X G a2, b_is_change := (fun_mk (st := s_is_change) l2 c2 k2).binds (ps := ["value"]) fun _ _ _ _ _ _ us hl => match us, hl with | [_], _ => rfl,
    a_check_changes := f3, fd_check_changes := _, F_check_changes := fun_mk (st := s_check_changes) l3 c3 k3, g_check_changes := PySem.W.mg_of X G a3, b_check_changes := (fun_mk (st := s_check_changes) l3 c3 k3).binds (ps := ["changes"]) fun _ _ _ _ _ _ us hl => match us, hl with | [_], _ => rfl,
    a_lies_in := f4, fd_lies_in := _, F_lies_in := fun_mk (st := s_lies_in) l4 c4 k4, g_lies_in := PySem.W.mg_of X G a4, b_lies_in := (fun_mk (st := s_lies_in) l4 c4 k4).binds (ps := ["key", "low", "high"]) fun _ _ _ _ _ _ us hl => match us, hl with | [_, _, _], _ => rfl,
    a_held_names := f5, fd_held_names := _, F_held_names := fun_mk (st := s_held_names) l5 c5 k5, g_held_names := PySem.W.mg_of X G a5, b_held_names := (fun_mk (st := s_held_names) l5 c5 k5).binds (ps := ["holds", "changes"]) fun _ _ _ _ _ _ us hl => match us, hl with | [_, _], _ => rfl,
    a_has_any := f6, fd_has_any := _, F_has_any := fun_mk (st := s_has_any) l6 c6 k6, g_has_any := PySem.W.mg_of X G a6, b_has_any := (fun_mk (st := s_has_any) l6 c6 k6).binds (ps := ["hold", "keys"]) fun _ _ _ _ _ _ us hl => match us, hl with | [_, _], _ => rfl,
    a_lies_in_any := f7, fd_lies_in_any := _, F_lies_in_any := fun_mk (st := s_lies_in_any) l7 c7 k7, g_lies_in_any := PySem.W.mg_of X G a7, b_lies_in_any := (fun_mk (st := s_lies_in_any) l7 c7 k7).binds (ps := ["key", "stretches"]) fun _ _ _ _ _ _ us hl => match us, hl with | [_, _], _ => rfl,
    a_changing_names := f8, fd_changing_names := _, F_changing_names := fun_mk (st := s_changing_names) l8 c8 k8, g_changing_names := PySem.W.mg_of X G a8, b_changing_names := (fun_mk (st := s_changing_names) l8 c8 k8).binds (ps := ["holds", "guards"]) fun _ _ _ _ _ _ us hl => match us, hl with | [_, _], _ => rfl,
    a__law_well := f9, fd__law_well := _, F__law_well := fun_mk (st := s__law_well) l9 c9 k9, g__law_well := PySem.W.mg_of X G a9, b__law_well := (fun_mk (st := s__law_well) l9 c9 k9).binds (ps := ["_law_cell"]) fun _ _ _ _ _ _ us hl => match us, hl with | [_], _ => rfl,
    a__law_draw := f10, fd__law_draw := _, F__law_draw := fun_mk (st := s__law_draw) l10 c10 k10, g__law_draw := PySem.W.mg_of X G a10, b__law_draw := (fun_mk (st := s__law_draw) l10 c10 k10).binds (ps := ["_law_well_here", "_law_many"]) fun _ _ _ _ _ _ us hl => match us, hl with | [_, _], _ => rfl,
    a__law_same := f11, fd__law_same := _, F__law_same := fun_mk (st := s__law_same) l11 c11 k11, g__law_same := PySem.W.mg_of X G a11, b__law_same := (fun_mk (st := s__law_same) l11 c11 k11).binds (ps := ["_law_found", "_law_due"]) fun _ _ _ _ _ _ us hl => match us, hl with | [_, _], _ => rfl,
    a__law_key := f12, fd__law_key := _, F__law_key := fun_mk (st := s__law_key) l12 c12 k12, g__law_key := PySem.W.mg_of X G a12, b__law_key := (fun_mk (st := s__law_key) l12 c12 k12).binds (ps := ["_law_well_here"]) fun _ _ _ _ _ _ us hl => match us, hl with | [_], _ => rfl,
    a__law_changes := f13, fd__law_changes := _, F__law_changes := fun_mk (st := s__law_changes) l13 c13 k13, g__law_changes := PySem.W.mg_of X G a13, b__law_changes := (fun_mk (st := s__law_changes) l13 c13 k13).binds (ps := ["_law_well_here", "_law_least", "_law_most"]) fun _ _ _ _ _ _ us hl => match us, hl with | [_, _, _], _ => rfl,
    a__law_guards := f14, fd__law_guards := _, F__law_guards := fun_mk (st := s__law_guards) l14 c14 k14, g__law_guards := PySem.W.mg_of X G a14, b__law_guards := (fun_mk (st := s__law_guards) l14 c14 k14).binds (ps := ["_law_well_here", "_law_most"]) fun _ _ _ _ _ _ us hl => match us, hl with | [_, _], _ => rfl,
    a__law_lies := f15, fd__law_lies := _, F__law_lies := fun_mk (st := s__law_lies) l15 c15 k15, g__law_lies := PySem.W.mg_of X G a15, b__law_lies := (fun_mk (st := s__law_lies) l15 c15 k15).binds (ps := ["_law_key_here", "_law_guards_here"]) fun _ _ _ _ _ _ us hl => match us, hl with | [_, _], _ => rfl,
    a__law_is_refused := f16, fd__law_is_refused := _, F__law_is_refused := fun_mk (st := s__law_is_refused) l16 c16 k16, g__law_is_refused := PySem.W.mg_of X G a16, b__law_is_refused := (fun_mk (st := s__law_is_refused) l16 c16 k16).binds (ps := ["_law_holds", "_law_changes_here"]) fun _ _ _ _ _ _ us hl => match us, hl with | [_, _], _ => rfl,
    a_law := f17, fd_law := _, F_law := fun_mk (st := s_law) l17 c17 k17, g_law := PySem.W.mg_of X G a17, b_law := (fun_mk (st := s_law) l17 c17 k17).binds (ps := ["_law_script"]) fun _ _ _ _ _ _ us hl => match us, hl with | [_], _ => rfl,
    kb_held_names_0 := kbm_kb_held_names_0 (fun_mk (st := s_held_names) l5 c5 k5),
    kb_changing_names_0 := kbm_kb_changing_names_0 (fun_mk (st := s_changing_names) l8 c8 k8),
    m_abs := PySem.W.mg_none_of X G z0,
    m_all := PySem.W.mg_none_of X G z1,
    m_any := PySem.W.mg_none_of X G z2,
    m_int := PySem.W.mg_none_of X G z3,
    m_isinstance := PySem.W.mg_none_of X G z4,
    m_len := PySem.W.mg_none_of X G z5,
    m_list := PySem.W.mg_none_of X G z6,
    m_max := PySem.W.mg_none_of X G z7,
    m_range := PySem.W.mg_none_of X G z8,
    m_sorted := PySem.W.mg_none_of X G z9,
    m_str := PySem.W.mg_none_of X G z10,
    m_tuple := PySem.W.mg_none_of X G z11,
    m_type := PySem.W.mg_none_of X G z12,
    m_zip := PySem.W.mg_none_of X G z13,
    x_InvalidChanges := x_InvalidChanges, q_InvalidChanges := PySem.W.mg_of X G xa_InvalidChanges,
    e_InvalidChanges := xe_InvalidChanges, k_InvalidChanges := xk_InvalidChanges, s_InvalidChanges := xs_InvalidChanges, t_InvalidChanges := xt_InvalidChanges,
    m_InvalidChanges_InvalidChanges := exm_pair xy_InvalidChanges xi_InvalidChanges xz_InvalidChanges xp_InvalidChanges_InvalidChanges }
theorem all_mk {l : PySem.W.OpenLaw} {w : World} {K : PySem.W.Frag} {h : Heap} {mg : Str → Option Value} {fa : Addr} (X : K.In h) (G : h.Ns mainGlobals mg) (hfa : mg "law" = some (.ref fa))
    {f0 : Addr} {od0 an0 : Option Addr} {sl0 : Array (Option Value)} {oc0 kV0 dc0 pm0 cd0 ct0 : Value}
    (a0 : PySem.W.nsIn K mainGlobals "is_text" = some (some (.ref f0))) (l0 : K.lookup f0 = some ⟨oc0, od0, .func (PySem.W.fnOf "is_text" "is_text" (defArgs s_is_text) (defBody s_is_text) (defScope s_is_text) .none kV0 dc0 pm0 an0 cd0 ct0), sl0⟩) (c0 : PySem.W.codeIn K cd0 "is_text" = true) (k0 : PySem.W.keepIn K (.ref f0) = true)
    {f1 : Addr} {od1 an1 : Option Addr} {sl1 : Array (Option Value)} {oc1 kV1 dc1 pm1 cd1 ct1 : Value}
    (a1 : PySem.W.nsIn K mainGlobals "is_changes" = some (some (.ref f1))) (l1 : K.lookup f1 = some ⟨oc1, od1, .func (PySem.W.fnOf "is_changes" "is_changes" (defArgs s_is_changes) (defBody s_is_changes) (defScope s_is_changes) .none kV1 dc1 pm1 an1 cd1 ct1), sl1⟩) (c1 : PySem.W.codeIn K cd1 "is_changes" = true) (k1 : PySem.W.keepIn K (.ref f1) = true)
    {f2 : Addr} {od2 an2 : Option Addr} {sl2 : Array (Option Value)} {oc2 kV2 dc2 pm2 cd2 ct2 : Value}
    (a2 : PySem.W.nsIn K mainGlobals "is_change" = some (some (.ref f2))) (l2 : K.lookup f2 = some ⟨oc2, od2, .func (PySem.W.fnOf "is_change" "is_change" (defArgs s_is_change) (defBody s_is_change) (defScope s_is_change) .none kV2 dc2 pm2 an2 cd2 ct2), sl2⟩) (c2 : PySem.W.codeIn K cd2 "is_change" = true) (k2 : PySem.W.keepIn K (.ref f2) = true)
    {f3 : Addr} {od3 an3 : Option Addr} {sl3 : Array (Option Value)} {oc3 kV3 dc3 pm3 cd3 ct3 : Value}
    (a3 : PySem.W.nsIn K mainGlobals "check_changes" = some (some (.ref f3))) (l3 : K.lookup f3 = some ⟨oc3, od3, .func (PySem.W.fnOf "check_changes" "check_changes" (defArgs s_check_changes) (defBody s_check_changes) (defScope s_check_changes) .none kV3 dc3 pm3 an3 cd3 ct3), sl3⟩) (c3 : PySem.W.codeIn K cd3 "check_changes" = true) (k3 : PySem.W.keepIn K (.ref f3) = true)
    {f4 : Addr} {od4 an4 : Option Addr} {sl4 : Array (Option Value)} {oc4 kV4 dc4 pm4 cd4 ct4 : Value}
    (a4 : PySem.W.nsIn K mainGlobals "lies_in" = some (some (.ref f4))) (l4 : K.lookup f4 = some ⟨oc4, od4, .func (PySem.W.fnOf "lies_in" "lies_in" (defArgs s_lies_in) (defBody s_lies_in) (defScope s_lies_in) .none kV4 dc4 pm4 an4 cd4 ct4), sl4⟩) (c4 : PySem.W.codeIn K cd4 "lies_in" = true) (k4 : PySem.W.keepIn K (.ref f4) = true)
    {f5 : Addr} {od5 an5 : Option Addr} {sl5 : Array (Option Value)} {oc5 kV5 dc5 pm5 cd5 ct5 : Value}
    (a5 : PySem.W.nsIn K mainGlobals "held_names" = some (some (.ref f5))) (l5 : K.lookup f5 = some ⟨oc5, od5, .func (PySem.W.fnOf "held_names" "held_names" (defArgs s_held_names) (defBody s_held_names) (defScope s_held_names) .none kV5 dc5 pm5 an5 cd5 ct5), sl5⟩) (c5 : PySem.W.codeIn K cd5 "held_names" = true) (k5 : PySem.W.keepIn K (.ref f5) = true)
    {f6 : Addr} {od6 an6 : Option Addr} {sl6 : Array (Option Value)} {oc6 kV6 dc6 pm6 cd6 ct6 : Value}
    (a6 : PySem.W.nsIn K mainGlobals "has_any" = some (some (.ref f6))) (l6 : K.lookup f6 = some ⟨oc6, od6, .func (PySem.W.fnOf "has_any" "has_any" (defArgs s_has_any) (defBody s_has_any) (defScope s_has_any) .none kV6 dc6 pm6 an6 cd6 ct6), sl6⟩) (c6 : PySem.W.codeIn K cd6 "has_any" = true) (k6 : PySem.W.keepIn K (.ref f6) = true)
    {f7 : Addr} {od7 an7 : Option Addr} {sl7 : Array (Option Value)} {oc7 kV7 dc7 pm7 cd7 ct7 : Value}
    (a7 : PySem.W.nsIn K mainGlobals "lies_in_any" = some (some (.ref f7))) (l7 : K.lookup f7 = some ⟨oc7, od7, .func (PySem.W.fnOf "lies_in_any" "lies_in_any" (defArgs s_lies_in_any) (defBody s_lies_in_any) (defScope s_lies_in_any) .none kV7 dc7 pm7 an7 cd7 ct7), sl7⟩) (c7 : PySem.W.codeIn K cd7 "lies_in_any" = true) (k7 : PySem.W.keepIn K (.ref f7) = true)
    {f8 : Addr} {od8 an8 : Option Addr} {sl8 : Array (Option Value)} {oc8 kV8 dc8 pm8 cd8 ct8 : Value}
    (a8 : PySem.W.nsIn K mainGlobals "changing_names" = some (some (.ref f8))) (l8 : K.lookup f8 = some ⟨oc8, od8, .func (PySem.W.fnOf "changing_names" "changing_names" (defArgs s_changing_names) (defBody s_changing_names) (defScope s_changing_names) .none kV8 dc8 pm8 an8 cd8 ct8), sl8⟩) (c8 : PySem.W.codeIn K cd8 "changing_names" = true) (k8 : PySem.W.keepIn K (.ref f8) = true)
    {f9 : Addr} {od9 an9 : Option Addr} {sl9 : Array (Option Value)} {oc9 kV9 dc9 pm9 cd9 ct9 : Value}
    (a9 : PySem.W.nsIn K mainGlobals "_law_well" = some (some (.ref f9))) (l9 : K.lookup f9 = some ⟨oc9, od9, .func (PySem.W.fnOf "_law_well" "_law_well" (defArgs s__law_well) (defBody s__law_well) (defScope s__law_well) .none kV9 dc9 pm9 an9 cd9 ct9), sl9⟩) (c9 : PySem.W.codeIn K cd9 "_law_well" = true) (k9 : PySem.W.keepIn K (.ref f9) = true)
    {f10 : Addr} {od10 an10 : Option Addr} {sl10 : Array (Option Value)} {oc10 kV10 dc10 pm10 cd10 ct10 : Value}
    (a10 : PySem.W.nsIn K mainGlobals "_law_draw" = some (some (.ref f10))) (l10 : K.lookup f10 = some ⟨oc10, od10, .func (PySem.W.fnOf "_law_draw" "_law_draw" (defArgs s__law_draw) (defBody s__law_draw) (defScope s__law_draw) .none kV10 dc10 pm10 an10 cd10 ct10), sl10⟩) (c10 : PySem.W.codeIn K cd10 "_law_draw" = true) (k10 : PySem.W.keepIn K (.ref f10) = true)
    {f11 : Addr} {od11 an11 : Option Addr} {sl11 : Array (Option Value)} {oc11 kV11 dc11 pm11 cd11 ct11 : Value}
    (a11 : PySem.W.nsIn K mainGlobals "_law_same" = some (some (.ref f11))) (l11 : K.lookup f11 = some ⟨oc11, od11, .func (PySem.W.fnOf "_law_same" "_law_same" (defArgs s__law_same) (defBody s__law_same) (defScope s__law_same) .none kV11 dc11 pm11 an11 cd11 ct11), sl11⟩) (c11 : PySem.W.codeIn K cd11 "_law_same" = true) (k11 : PySem.W.keepIn K (.ref f11) = true)
    {f12 : Addr} {od12 an12 : Option Addr} {sl12 : Array (Option Value)} {oc12 kV12 dc12 pm12 cd12 ct12 : Value}
    (a12 : PySem.W.nsIn K mainGlobals "_law_key" = some (some (.ref f12))) (l12 : K.lookup f12 = some ⟨oc12, od12, .func (PySem.W.fnOf "_law_key" "_law_key" (defArgs s__law_key) (defBody s__law_key) (defScope s__law_key) .none kV12 dc12 pm12 an12 cd12 ct12), sl12⟩) (c12 : PySem.W.codeIn K cd12 "_law_key" = true) (k12 : PySem.W.keepIn K (.ref f12) = true)
    {f13 : Addr} {od13 an13 : Option Addr} {sl13 : Array (Option Value)} {oc13 kV13 dc13 pm13 cd13 ct13 : Value}
    (a13 : PySem.W.nsIn K mainGlobals "_law_changes" = some (some (.ref f13))) (l13 : K.lookup f13 = some ⟨oc13, od13, .func (PySem.W.fnOf "_law_changes" "_law_changes" (defArgs s__law_changes) (defBody s__law_changes) (defScope s__law_changes) .none kV13 dc13 pm13 an13 cd13 ct13), sl13⟩) (c13 : PySem.W.codeIn K cd13 "_law_changes" = true) (k13 : PySem.W.keepIn K (.ref f13) = true)
    {f14 : Addr} {od14 an14 : Option Addr} {sl14 : Array (Option Value)} {oc14 kV14 dc14 pm14 cd14 ct14 : Value}
    (a14 : PySem.W.nsIn K mainGlobals "_law_guards" = some (some (.ref f14))) (l14 : K.lookup f14 = some ⟨oc14, od14, .func (PySem.W.fnOf "_law_guards" "_law_guards" (defArgs s__law_guards) (defBody s__law_guards) (defScope s__law_guards) .none kV14 dc14 pm14 an14 cd14 ct14), sl14⟩) (c14 : PySem.W.codeIn K cd14 "_law_guards" = true) (k14 : PySem.W.keepIn K (.ref f14) = true)
    {f15 : Addr} {od15 an15 : Option Addr} {sl15 : Array (Option Value)} {oc15 kV15 dc15 pm15 cd15 ct15 : Value}
    (a15 : PySem.W.nsIn K mainGlobals "_law_lies" = some (some (.ref f15))) (l15 : K.lookup f15 = some ⟨oc15, od15, .func (PySem.W.fnOf "_law_lies" "_law_lies" (defArgs s__law_lies) (defBody s__law_lies) (defScope s__law_lies) .none kV15 dc15 pm15 an15 cd15 ct15), sl15⟩) (c15 : PySem.W.codeIn K cd15 "_law_lies" = true) (k15 : PySem.W.keepIn K (.ref f15) = true)
    {f16 : Addr} {od16 an16 : Option Addr} {sl16 : Array (Option Value)} {oc16 kV16 dc16 pm16 cd16 ct16 : Value}
    (a16 : PySem.W.nsIn K mainGlobals "_law_is_refused" = some (some (.ref f16))) (l16 : K.lookup f16 = some ⟨oc16, od16, .func (PySem.W.fnOf "_law_is_refused" "_law_is_refused" (defArgs s__law_is_refused) (defBody s__law_is_refused) (defScope s__law_is_refused) .none kV16 dc16 pm16 an16 cd16 ct16), sl16⟩) (c16 : PySem.W.codeIn K cd16 "_law_is_refused" = true) (k16 : PySem.W.keepIn K (.ref f16) = true)
    {f17 : Addr} {od17 an17 : Option Addr} {sl17 : Array (Option Value)} {oc17 kV17 dc17 pm17 cd17 ct17 : Value}
    (a17 : PySem.W.nsIn K mainGlobals "law" = some (some (.ref f17))) (l17 : K.lookup f17 = some ⟨oc17, od17, .func (PySem.W.fnOf "law" "law" (defArgs s_law) (defBody s_law) (defScope s_law) .none kV17 dc17 pm17 an17 cd17 ct17), sl17⟩) (c17 : PySem.W.codeIn K cd17 "law" = true) (k17 : PySem.W.keepIn K (.ref f17) = true)
    (z0 : PySem.W.nsIn K mainGlobals "abs" = some none)
    (z1 : PySem.W.nsIn K mainGlobals "all" = some none)
    (z2 : PySem.W.nsIn K mainGlobals "any" = some none)
    (z3 : PySem.W.nsIn K mainGlobals "int" = some none)
    (z4 : PySem.W.nsIn K mainGlobals "isinstance" = some none)
    (z5 : PySem.W.nsIn K mainGlobals "len" = some none)
    (z6 : PySem.W.nsIn K mainGlobals "list" = some none)
    (z7 : PySem.W.nsIn K mainGlobals "max" = some none)
    (z8 : PySem.W.nsIn K mainGlobals "range" = some none)
    (z9 : PySem.W.nsIn K mainGlobals "sorted" = some none)
    (z10 : PySem.W.nsIn K mainGlobals "str" = some none)
    (z11 : PySem.W.nsIn K mainGlobals "tuple" = some none)
    (z12 : PySem.W.nsIn K mainGlobals "type" = some none)
    (z13 : PySem.W.nsIn K mainGlobals "zip" = some none)
    {x_InvalidChanges : Addr} (xa_InvalidChanges : PySem.W.nsIn K mainGlobals "InvalidChanges" = some (some (.ref x_InvalidChanges))) (xe_InvalidChanges : PySem.W.excIn K x_InvalidChanges [.type "ValueError", .type "Exception", .type "BaseException", .type "object"] "ValueError.__new__" = true) (xk_InvalidChanges : PySem.W.keepIn K (.ref x_InvalidChanges) = true) (xs_InvalidChanges : PySem.W.subIn K (.ref x_InvalidChanges) (.type "BaseException") = some true) (xt_InvalidChanges : PySem.W.typeIn K (.ref x_InvalidChanges) = some (.type "type")) (xy_InvalidChanges : PySem.W.subIn K (.ref x_InvalidChanges) (.type "BaseException") = some true) (xi_InvalidChanges : PySem.W.isClsIn K x_InvalidChanges = true) (xz_InvalidChanges : PySem.W.typeIn K (.ref x_InvalidChanges) = some (.type "type"))
    (xp_InvalidChanges_InvalidChanges : PySem.W.subIn K (.ref x_InvalidChanges) (.ref x_InvalidChanges) = some true) :
    ∃ fd : FuncData, (∀ (s : Shared) (v : Value), BindsTo s fd ⟨[v], []⟩ [("_law_script", v)]) ∧ ∀ base : Heap, K.In base → base.Ns mainGlobals mg → FnOk l.prog w K mg base CX0 7 fa fd ["_law_script"] (spLaw K) := by
  have e := hfa.symm.trans (PySem.W.mg_of X G a17)
  cases e
  have Y := fx_mk X G a0 l0 c0 k0 a1 l1 c1 k1 a2 l2 c2 k2 a3 l3 c3 k3 a4 l4 c4 k4 a5 l5 c5 k5 a6 l6 c6 k6 a7 l7 c7 k7 a8 l8 c8 k8 a9 l9 c9 k9 a10 l10 c10 k10 a11 l11 c11 k11 a12 l12 c12 k12 a13 l13 c13 k13 a14 l14 c14 k14 a15 l15 c15 k15 a16 l16 c16 k16 a17 l17 c17 k17 z0 z1 z2 z3 z4 z5 z6 z7 z8 z9 z10 z11 z12 z13 xa_InvalidChanges xe_InvalidChanges xk_InvalidChanges xs_InvalidChanges xt_InvalidChanges xy_InvalidChanges xi_InvalidChanges xz_InvalidChanges xp_InvalidChanges_InvalidChanges
  exact ⟨PySem.W.fnOf "law" "law" (defArgs s_law) (defBody s_law) (defScope s_law) .none kV17 dc17 pm17 an17 cd17 ct17, fun s v => .of_eq rfl, fun base _ _ => ok_law (fx_mk X G a0 l0 c0 k0 a1 l1 c1 k1 a2 l2 c2 k2 a3 l3 c3 k3 a4 l4 c4 k4 a5 l5 c5 k5 a6 l6 c6 k6 a7 l7 c7 k7 a8 l8 c8 k8 a9 l9 c9 k9 a10 l10 c10 k10 a11 l11 c11 k11 a12 l12 c12 k12 a13 l13 c13 k13 a14 l14 c14 k14 a15 l15 c15 k15 a16 l16 c16 k16 a17 l17 c17 k17 z0 z1 z2 z3 z4 z5 z6 z7 z8 z9 z10 z11 z12 z13 xa_InvalidChanges xe_InvalidChanges xk_InvalidChanges xs_InvalidChanges xt_InvalidChanges xy_InvalidChanges xi_InvalidChanges xz_InvalidChanges xp_InvalidChanges_InvalidChanges)⟩
end My
open PySem PySem.W PyProof.Rows
set_option maxHeartbeats 0 in
theorem PySem.Challenge.cw_heldpasts_k65_names_that_hold_holds : PySem.Challenge.rw_heldpasts_k65_names_that_hold.Holds := by
  w_on; o_law; k_head; (case hw => w_witness2)
  k_fill
  refine L2.walk_of (l := PySem.Challenge.rw_heldpasts_k65_names_that_hold) (n := 63) (k := 7) (x := "_law_script") (CX := fun _ => L2.CX0) (sp := fun w => My.spLaw _) rfl (by decide) rfl ⟨rfl, by decide, by decide⟩ (fun w h Y => PySem.W.kIn_of Y) ?F (fun _ _ a ns hl _ hS => ⟨a, ns, rfl, hS, hl, fun _ => rfl⟩) (fun _ _ _ _ _ h => h)
  case F =>
    intro w mg fa h KX G hmg
    refine' My.all_mk KX G hmg ?a0 ?l0 ?c0 ?k0 ?a1 ?l1 ?c1 ?k1 ?a2 ?l2 ?c2 ?k2 ?a3 ?l3 ?c3 ?k3 ?a4 ?l4 ?c4 ?k4 ?a5 ?l5 ?c5 ?k5 ?a6 ?l6 ?c6 ?k6 ?a7 ?l7 ?c7 ?k7 ?a8 ?l8 ?c8 ?k8 ?a9 ?l9 ?c9 ?k9 ?a10 ?l10 ?c10 ?k10 ?a11 ?l11 ?c11 ?k11 ?a12 ?l12 ?c12 ?k12 ?a13 ?l13 ?c13 ?k13 ?a14 ?l14 ?c14 ?k14 ?a15 ?l15 ?c15 ?k15 ?a16 ?l16 ?c16 ?k16 ?a17 ?l17 ?c17 ?k17 ?z0 ?z1 ?z2 ?z3 ?z4 ?z5 ?z6 ?z7 ?z8 ?z9 ?z10 ?z11 ?z12 ?z13 ?xa_InvalidChanges ?xe_InvalidChanges ?xk_InvalidChanges ?xs_InvalidChanges ?xt_InvalidChanges ?xy_InvalidChanges ?xi_InvalidChanges ?xz_InvalidChanges ?xp_InvalidChanges_InvalidChanges
    (case a0 => k_is); (case l0 => k_is); (case c0 => k_is); (case k0 => k_is); (case a1 => k_is); (case l1 => k_is); (case c1 => k_is); (case k1 => k_is); (case a2 => k_is); (case l2 => k_is); (case c2 => k_is); (case k2 => k_is); (case a3 => k_is); (case l3 => k_is); (case c3 => k_is); (case k3 => k_is); (case a4 => k_is); (case l4 => k_is); (case c4 => k_is); (case k4 => k_is); (case a5 => k_is); (case l5 => k_is); (case c5 => k_is); (case k5 => k_is); (case a6 => k_is); (case l6 => k_is); (case c6 => k_is); (case k6 => k_is); (case a7 => k_is); (case l7 => k_is); (case c7 => k_is); (case k7 => k_is); (case a8 => k_is); (case l8 => k_is); (case c8 => k_is); (case k8 => k_is); (case a9 => k_is); (case l9 => k_is); (case c9 => k_is); (case k9 => k_is); (case a10 => k_is); (case l10 => k_is); (case c10 => k_is); (case k10 => k_is); (case a11 => k_is); (case l11 => k_is); (case c11 => k_is); (case k11 => k_is); (case a12 => k_is); (case l12 => k_is); (case c12 => k_is); (case k12 => k_is); (case a13 => k_is); (case l13 => k_is); (case c13 => k_is); (case k13 => k_is); (case a14 => k_is); (case l14 => k_is); (case c14 => k_is); (case k14 => k_is); (case a15 => k_is); (case l15 => k_is); (case c15 => k_is); (case k15 => k_is); (case a16 => k_is); (case l16 => k_is); (case c16 => k_is); (case k16 => k_is); (case a17 => k_is); (case l17 => k_is); (case c17 => k_is); (case k17 => k_is); (case z0 => k_is); (case z1 => k_is); (case z2 => k_is); (case z3 => k_is); (case z4 => k_is); (case z5 => k_is); (case z6 => k_is); (case z7 => k_is); (case z8 => k_is); (case z9 => k_is); (case z10 => k_is); (case z11 => k_is); (case z12 => k_is); (case z13 => k_is); (case xa_InvalidChanges => k_is); (case xe_InvalidChanges => first | k_exc | k_is); (case xk_InvalidChanges => k_is); (case xs_InvalidChanges => k_is); (case xt_InvalidChanges => k_is); (case xy_InvalidChanges => k_is); (case xi_InvalidChanges => k_is); (case xz_InvalidChanges => k_is); (case xp_InvalidChanges_InvalidChanges => first | rfl | k_is)

