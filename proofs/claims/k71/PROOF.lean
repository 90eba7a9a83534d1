import PyProof.Rows.All
import Wide.All
import OpenK.AllK
import Wide.FinOn
import HandS.ForMost
import HandS.Wide
import HandS.More
import HandS.StrMore
import HandS.FStr
import HandS.IsInst
import HandS.TupAny
import HandS.Style
import HandS.Exc
import HandS.TryOnly
import HandS.ExcOwn
import HandS.WordsExc
import HandS.Evl
import HandS.Codes
import HandS.SortKw
import KE.DatumOrd
import HandS.Replace
import HandS.ReplaceList
import HandS.TryMany
import HandS.RaiseMore
import HandS.DictComp
import PySem.Challenge.RW_heldpasts_k71_letters_and_texts
set_option Elab.async false
set_option linter.all false
set_option maxRecDepth 100000
set_option maxHeartbeats 4000000
/-! ### my rules: one name an operator, whatever the kinds -/
namespace My
open PySem PySem.Spec PyProof.Rows L2
section
variable {X : Cx}
theorem hu_64 {A : Around} {k : Nat} (hr : Room k A) : A.units + 64 < cLine := hr.units
/-! #### + -/
def rAddS : R2 := fun x y H Q => ∃ i j, x = .str i ∧ y = .str j ∧ i.length + j.length ≤ sizeLine ∧ Q (.str (i ++ j)) H
def rADD (K : PySem.W.Frag) : R2 := fun x y H Q => rI0 (fun i j => .int (i + j)) x y H Q ∨ rAddS x y H Q ∨ rCat x y H Q ∨ rCatA K x y H Q
theorem op_ADD : OpR X (binaryOp .Add) (rADD X.K) := op_add.or (OpR.or (r := rAddS) op_add_str (op_cat.or op_catA))
def rSUB : R2 := rI0 fun i j => .int (i - j)
theorem op_SUB : OpR X (binaryOp .Sub) rSUB := op_sub
/-! #### * -/
theorem cps_repl (l : Array Nat) (k : Nat) : (List.replicate k l).foldl (· ++ ·) #[] = ((List.replicate k l.toList).flatten).toArray := by
  have h : ∀ (n : Nat) (acc : Array Nat), (List.replicate n l).foldl (· ++ ·) acc = acc ++ ((List.replicate n l.toList).flatten).toArray := by
    intro n
    induction n with
    | zero => intro acc; simp
    | succ n ih =>
      intro acc
      rw [List.replicate_succ, List.foldl_cons, ih, List.replicate_succ, List.flatten_cons]
      apply Array.ext'
      simp
  rw [h]
  simp
/-- a text so many times -/
def repS (x : Str) (k : Int) : Str := ⟨((List.replicate k.toNat x.cps.toList).flatten).toArray⟩
def rMulS : R2 := fun x y H Q => ∃ z k, x = .str z ∧ y = .int k ∧ -(2 ^ 63) ≤ k ∧ k < 2 ^ 63 ∧ z.length * k.toNat ≤ sizeLine ∧ Q (.str (repS z k)) H
theorem op_mul_str : OpR X (binaryOp .Mult) rMulS := by
  intro pins s σ H x y v u Q I rx ry h
  obtain ⟨z, k, rfl, rfl, h1, h2, hz, q⟩ := h
  obtain ⟨t, rfl⟩ := rx
  obtain ⟨t', rfl⟩ := ry
  have hz' : z.length * k.toNat ≤ 2 ^ 24 := hz
  refine P.mul_str ?_ ?_ ?_ ?_
  · rw [decide_eq_false (by omega), decide_eq_false (by omega)]; rfl
  · intro h1 h3
    have hk : 0 < k := by omega
    have h4 : (z.length : Int) * k ≤ 2 ^ 24 := by
      have : ((z.length * k.toNat : Nat) : Int) ≤ 2 ^ 24 := by exact_mod_cast hz'
      rw [Int.natCast_mul, Int.toNat_of_nonneg (by omega)] at this
      exact this
    intro h5
    have h6 : (2 ^ 63 - 1) / k < (z.length : Int) := h5
    have h7 := (Int.ediv_lt_iff_lt_mul hk).mp h6
    omega
  · intro h1 h3
    exact decide_eq_false (Nat.not_lt.mpr hz)
  · by_cases h3 : k < 1
    · rw [if_pos h3]
      have e : repS z k = Str.empty := by
        unfold repS
        rw [show k.toNat = 0 by omega]
        rfl
      rw [e] at q
      exact ⟨by decide, ⟨.str Str.empty, H, I.tok _, ⟨_, rfl⟩, q⟩⟩
    · rw [if_neg h3]
      by_cases h4 : (k == 1 || z.length == 0) = true
      · rw [if_pos h4]
        have e : repS z k = z := by
          unfold repS
          rcases Bool.or_eq_true _ _ ▸ h4 with h5 | h5
          · rw [show k.toNat = 1 by have := of_decide_eq_true h5; omega]
            simp
          · have h6 : z.length = 0 := by simpa using h5
            have h7 : z.cps.toList = [] := by
              apply List.eq_nil_of_length_eq_zero
              rw [Array.length_toList]
              exact h6
            rw [h7]
            rcases z with ⟨c⟩
            have h8 : c = #[] := Array.ext' (by simpa using h7)
            subst h8
            simp
        rw [e] at q
        exact ⟨.str z, H, I, ⟨_, rfl⟩, q⟩
      · rw [if_neg h4]
        refine ⟨?_, ⟨.str (repS z k), H, I.tok _, ⟨s.toks, ?_⟩, q⟩⟩
        · show Str.length ⟨_⟩ ≤ sizeLine
          rw [cps_repl]
          show (List.toArray _).size ≤ sizeLine
          rw [List.size_toArray, List.length_flatten, List.map_replicate, List.sum_replicate_nat, Array.length_toList]
          show k.toNat * z.length ≤ sizeLine
          rw [Nat.mul_comm]
          exact hz
        · rw [cps_repl]
          rfl
def CMulA (i j : Int) : Prop := CMul i j ∨ CMulW i j
def rMulI : R2 := fun x y H Q => ∃ i j, x = .int i ∧ y = .int j ∧ CMulA i j ∧ Q (.int (i * j)) H
theorem op_mulA : OpR X (binaryOp .Mult) rMulI := opI fun _ _ _ _ _ _ _ hc q => mul_int q (hc.elim (fun h => h.ok) fun h => h.ok)
def rMUL (K : PySem.W.Frag) : R2 := fun x y H Q => rMulI x y H Q ∨ rMulS x y H Q ∨ rRep x y H Q
theorem op_MUL : OpR X (binaryOp .Mult) (rMUL X.K) := op_mulA.or (op_mul_str.or op_rep)
/-! #### //, percent, ** -/
def rMOD : R2 := rI (fun _ j => 0 < j) fun i j => .int (i % j)
theorem op_MOD : OpR X (binaryOp .Mod) rMOD := op_mod
def rFDIV : R2 := rI CDivW fun i j => .int (i / j)
theorem op_FDIV : OpR X (binaryOp .FloorDiv) rFDIV := op_fdivW
def rPOW : R2 := rI CPow fun i j => .int (i ^ j.toNat)
theorem op_POW : OpR X (binaryOp .Pow) rPOW := op_pow
def rNEG : V → Hp → VK → Prop := rU fun i => .int (-i)
theorem un_NEG : UnR X (unaryOp .USub) rNEG := un_neg
/-! #### comparisons -/
def rEQ (K : PySem.W.Frag) : R2 := fun x y H Q => rEq x y H Q ∨ rEqD K x y H Q
theorem op_EQ (hu : X.A.units + 64 < cLine) : OpR X (compareOp .Eq) (rEQ X.K) := op_eq.or (op_eqD hu)
def rNE (K : PySem.W.Frag) : R2 := fun x y H Q => rNe x y H Q ∨ rNeD K x y H Q
theorem op_NE (hu : X.A.units + 64 < cLine) : OpR X (compareOp .NotEq) (rNE X.K) := op_ne.or (op_neD hu)
def rCI (p : Int → Int → Bool) : R2 := rI0 fun i j => .bl (p i j)
def rCS (p : List Nat → List Nat → Bool) : R2 := fun x y H Q => ∃ i j, x = .str i ∧ y = .str j ∧ Q (.bl (p i.cps.toList j.cps.toList)) H
def rLT : R2 := fun x y H Q => rCI (fun i j => decide (i < j)) x y H Q ∨ rCS (fun i j => decide (i < j)) x y H Q
theorem op_LT : OpR X (compareOp .Lt) rLT := OpR.or (r := rCI _) (r' := rCS _) op_lt op_lt_str
def rLE : R2 := fun x y H Q => rCI (fun i j => decide (i ≤ j)) x y H Q ∨ rCS (fun i j => !decide (j < i)) x y H Q
theorem op_LE : OpR X (compareOp .LtE) rLE := OpR.or (r := rCI _) (r' := rCS _) op_le op_le_str
def rGT : R2 := fun x y H Q => rCI (fun i j => decide (j < i)) x y H Q ∨ rCS (fun i j => decide (j < i)) x y H Q
theorem op_GT : OpR X (compareOp .Gt) rGT := OpR.or (r := rCI _) (r' := rCS _) op_gt op_gt_str
def rGE : R2 := fun x y H Q => rCI (fun i j => decide (j ≤ i)) x y H Q ∨ rCS (fun i j => !decide (i < j)) x y H Q
theorem op_GE : OpR X (compareOp .GtE) rGE := OpR.or (r := rCI _) (r' := rCS _) op_ge op_ge_str
/-- is: None; types; a truth on the right -/
def rIsT (f : Bool → Bool) : R2 := fun x y H Q => ∃ b, y = .bl b ∧ Q (.bl (f (decide (x = .bl b)))) H
theorem op_is_true : OpR X (compareOp .Is) (rIsT id) := by
  intro pins s σ H x y v u Q I rx ry h
  obtain ⟨b, rfl, q⟩ := h
  cases (show u = Value.bool b from ry)
  by_cases e : x = .bl b
  · subst e
    cases (show v = Value.bool b from rx)
    exact wpAny_is_self rfl ⟨.bl true, H, I, rfl, by simpa using q⟩
  · have ne : v ≠ Value.bool b := by
      rintro rfl
      apply e
      cases x <;> first
        | (cases rx; done)
        | (cases rx; rfl)
        | (obtain ⟨t, z⟩ := rx; cases z)
    have hp : plainIs v (Value.bool b) = true := by
      cases x <;> first
        | (cases rx; rfl)
        | (obtain ⟨t, rfl⟩ := rx; rfl)
    exact wpAny_is_other hp ne ⟨.bl false, H, I, rfl, by simpa [e] using q⟩
theorem op_isnot_true : OpR X (compareOp .IsNot) (rIsT not) := by
  intro pins s σ H x y v u Q I rx ry h
  obtain ⟨b, rfl, q⟩ := h
  cases (show u = Value.bool b from ry)
  by_cases e : x = .bl b
  · subst e
    cases (show v = Value.bool b from rx)
    exact wpAny_isNot_self rfl ⟨.bl false, H, I, rfl, by simpa using q⟩
  · have ne : v ≠ Value.bool b := by
      rintro rfl
      apply e
      cases x <;> first
        | (cases rx; done)
        | (cases rx; rfl)
        | (obtain ⟨t, z⟩ := rx; cases z)
    have hp : plainIs v (Value.bool b) = true := by
      cases x <;> first
        | (cases rx; rfl)
        | (obtain ⟨t, rfl⟩ := rx; rfl)
    exact wpAny_isNot_other hp ne ⟨.bl true, H, I, rfl, by simpa [e] using q⟩
def rIsN1 (f : Bool → Bool) : R2 := fun x y H Q => y = .non ∧ Q (.bl (f (decide (x = .non)))) H
def rIsTy (f : Bool → Bool) : R2 := fun x y H Q => ∃ m n, x = .ty m ∧ y = .ty n ∧ Q (.bl (f (decide (m = n)))) H
def rIS (_ : PySem.W.Frag) : R2 := fun x y H Q => rIsN1 id x y H Q ∨ rIsTy id x y H Q ∨ rIsT id x y H Q
theorem op_IS : OpR X (compareOp .Is) (rIS X.K) := OpR.or (r := rIsN1 id) op_isN (OpR.or (r := rIsTy id) op_isTyB op_is_true)
def rISN (_ : PySem.W.Frag) : R2 := fun x y H Q => rIsN1 not x y H Q ∨ rIsTy not x y H Q ∨ rIsT not x y H Q
theorem op_ISN : OpR X (compareOp .IsNot) (rISN X.K) := OpR.or (r := rIsN1 not) op_notN (OpR.or (r := rIsTy not) op_notTyB op_isnot_true)
/-- in: a sign in a text; in a list or tuple -/
def rInSg (f : Bool → Bool) : R2 := fun x y H Q => ∃ (c : Nat) (z : Str), x = .str ⟨#[c]⟩ ∧ y = .str z ∧ Q (.bl (f (decide (c ∈ z.cps.toList)))) H
def rINU (K : PySem.W.Frag) : R2 := fun x y H Q => rInSg id x y H Q ∨ rIn K false x y H Q
theorem op_IN : OpR X (compareOp .In) (rINU X.K) := OpR.or (r := rInSg id) op_in_sign op_in_seq
def rNINU (K : PySem.W.Frag) : R2 := fun x y H Q => rInSg not x y H Q ∨ rIn K true x y H Q
theorem op_NIN : OpR X (compareOp .NotIn) (rNINU X.K) := OpR.or (r := rInSg not) op_notIn_sign op_notIn_seq
/-! #### subscripts, slices -/
def rIX (K : PySem.W.Frag) : R2 := rIx K
theorem ix_SEQ : IxR X (rIX X.K) := ix_seq
def rSL (K : PySem.W.Frag) : V → Option Int → Option Int → Hp → VK → Prop := fun x lo hi H Q => rSlS x lo hi H Q ∨ rSlL K x lo hi H Q ∨ rSlA K x lo hi H Q
theorem sl_SEQ : SlR X (rSL X.K) := SlR.or sl_str (SlR.or sl_list sl_tupA)
/-! #### tests -/
def tTru1 (K : PySem.W.Frag) (ta : TE) : TT := fun σ H Q => ta σ H fun x H' => ∃ k, TruV K x H' k ∧ Q k H'
theorem pt_tru {a : Expr} {ta : TE} (ha : PE X a ta) (he : ∀ whole, isTrue a X.env whole = (do let v ← whole; standAt a.pos; holding [v] (truthy v))) : PT X a (tTru1 X.K ta) := pt_truth ha he
/-! #### the module's constants -/
theorem pe_cI {x : Str} {i : Int} {pos : Pos} (hg : Gl X x) (h : ∃ t, X.mg x = some (.int i t)) (hd : (x == ("__debug__" : Str)) = false := by decide) : PE X (.Name x pos) (tC (.int i)) := by
  obtain ⟨t, h⟩ := h
  exact pe_glob hg h ⟨t, rfl⟩ hd
theorem pe_cS {x : Str} {i : Str} {pos : Pos} (hg : Gl X x) (h : ∃ t, X.mg x = some (.str i t)) (hd : (x == ("__debug__" : Str)) = false := by decide) : PE X (.Name x pos) (tC (.str i)) := by
  obtain ⟨t, h⟩ := h
  exact pe_glob hg h ⟨t, rfl⟩ hd
theorem pe_cR {x : Str} {a : Addr} {pos : Pos} (hg : Gl X x) (h : X.mg x = some (.ref a)) (hd : (x == ("__debug__" : Str)) = false := by decide) : PE X (.Name x pos) (tC (.ref a)) := pe_glob hg h rfl hd
/-! #### calls with keywords alone -/
section
variable {CX : CXT} {k : Nat} {f C : Addr} {fd : FuncData} {ps ks : List Str} {sp : Sp} {E : XK} {x m : Str} {p pos apos kpos : Pos} {e o : Expr} {es : List Expr} {kws : List Keyword} {te ta : TE} {t tk : TA} {nm : Option Str}
variable {g : List Value → List Value → List Value} {gV : List V → List V → List V}
def tCallK0 (sp : Sp) (gV : List V → List V → List V) (E : XK) (tk : TA) : TE := fun σ H Q => tk σ H fun zs H2 => sp (gV [] zs) H2 Q E
theorem pe_callK0 (F : FnOk X.prog X.w X.K X.mg X.base CX k f fd ps sp) (hr : Room k X.A) (hg : Gl X x) (hm : X.mg x = some (.ref f)) (hk : PySem.W.keepIn X.K (.ref f) = true) (hb : KBinds X.K fd ps ks g gV) (hx : Passes CX X E)
    (hkw : PK X kws tk) (hall : (backToKw pos (keywordEach kws X.env)).all (·.1.isSome) = true := by rfl) (hks : (backToKw pos (keywordEach kws X.env)).filterMap (·.1) = ks := by rfl)
    (hdb : (x == ("__debug__" : Str)) = false := by decide)
    (hpl : ((backTo pos (starEach [] X.env)).any (·.1) || (backToKw pos (keywordEach kws X.env)).any (·.1.isNone)) = false := by rfl) :
    PE X (.Call (.Name x p) [] kws pos) (tCallK0 sp gV E tk) := by
  refine ⟨fun pins s σ H Q I h => ?_⟩
  refine wpAny_Call_Name_kw (ld_glob I hg hm ?_ hdb)
  refine PySem.W.callWith_KW0 (h₀ := X.base) I.ok.mod.kin hk hall ?_ hpl
  refine thn (hkw.run pos pins s σ H _ I h) fun ws s2 ⟨zs, H2, I2, rz, q2⟩ => ⟨I2.kIn, ?_⟩
  rw [hks]
  exact run_fnk (us := []) (vs := []) F hr hb hx I2 .nil rz q2
end
/-! #### built-ins -/
def rINT : List V → Hp → VK → Prop := fun xs H Q => ((∃ i, xs = [.int i] ∧ Q (.int i) H) ∨ ∃ k, xs = [.bl k] ∧ Q (.int (if k then 1 else 0)) H) ∨ ∃ a n, xs = [.str a] ∧ PySem.intText? a = some n ∧ a.length ≤ 640 ∧ Q (.int n) H
theorem call_INT : CallR X (.type "int") rINT := call_int1.or call_int_str
def rSTR : List V → Hp → VK → Prop := fun xs H Q => ∃ i, xs = [.int i] ∧ i.natAbs.log2 < 1920 ∧ Q (.str (toString i)) H
theorem call_STR : CallR X (.type "str") rSTR := call_str_int
def rTUPLE (K : PySem.W.Frag) : List V → Hp → VK → Prop := fun xs H Q => ∃ p ys, xs = [.ref p] ∧ ((SqL K H p ys ∧ ∀ l, H l = none → Q (.ref l) (upd H l (.tup ys))) ∨ (SqT K H p ys ∧ Q (.ref p) H))
theorem call_TUPLE : CallR X (.type "tuple") (rTUPLE X.K) := call_tuple_of
def rLIST (K : PySem.W.Frag) : List V → Hp → VK → Prop := fun xs H Q => ∃ p ys, xs = [.ref p] ∧ (SqL K H p ys ∨ SqT K H p ys) ∧ ∀ l, H l = none → Q (.ref l) (upd H l (.lst ys))
theorem call_LIST : CallR X (.type "list") (rLIST X.K) := call_list_of
def rLenQ (K : PySem.W.Frag) : List V → Hp → VK → Prop := fun xs H Q => ∃ p ys, xs = [.ref p] ∧ (SqL K H p ys ∨ SqT K H p ys) ∧ Q (.int ys.length) H
def rLenS : List V → Hp → VK → Prop := fun xs H Q => ∃ z, xs = [.str z] ∧ z.length ≤ sizeLine ∧ Q (.int z.length) H
def rLEN (K : PySem.W.Frag) : List V → Hp → VK → Prop := fun xs H Q => rLenS xs H Q ∨ rLenQ K xs H Q
theorem call_LEN : CallR X (.builtin "len") (rLEN X.K) := CallR.or (r := rLenS) (r' := rLenQ X.K) call_len_str call_len_seq
def rABS : List V → Hp → VK → Prop := fun xs H Q => ∃ i, xs = [.int i] ∧ Q (.int (if i < 0 then -i else i)) H
theorem call_ABS : CallR X (.builtin "abs") rABS := call_abs
def rMAX2 : List V → Hp → VK → Prop := fun xs H Q => ∃ i j, xs = [.int i, .int j] ∧ Q (.int (if j > i then j else i)) H
theorem call_MAX2 (hc : X.calm = true) : CallR X (.builtin "max") rMAX2 := call_max2 hc
def rMIN2 : List V → Hp → VK → Prop := fun xs H Q => ∃ i j, xs = [.int i, .int j] ∧ Q (.int (if j < i then j else i)) H
theorem call_MIN2 (hc : X.calm = true) : CallR X (.builtin "min") rMIN2 := call_min2 hc
def rISI (K : PySem.W.Frag) : List V → Hp → VK → Prop := fun xs H Q => rIsi K xs H Q ∨ rIsiT K xs H Q
theorem call_ISI : CallR X (.builtin "isinstance") (rISI X.K) := call_isi.or call_isiT
/-! #### methods -/
def rM_isascii : V → List V → Hp → VK → Prop := fun x xs H Q => ∃ a, x = .str a ∧ xs = [] ∧ True ∧ Q (.bl (Txt.isascii a)) H
def rM_isprintable : V → List V → Hp → VK → Prop := fun x xs H Q => ∃ a, x = .str a ∧ xs = [] ∧ True ∧ Q (.bl (Txt.isprintable a)) H
def rM_isdigit : V → List V → Hp → VK → Prop := fun x xs H Q => ∃ a, x = .str a ∧ xs = [] ∧ True ∧ Q (.bl (Txt.isdigit a)) H
def rM_find : V → List V → Hp → VK → Prop := fun x xs H Q => ∃ a b, x = .str a ∧ xs = [.str b] ∧ Q (.int (Txt.find a b)) H
def rM_zfill : V → List V → Hp → VK → Prop := fun x xs H Q => ∃ (a : Str) (i : Int), x = .str a ∧ xs = [.int i] ∧ PadOk i = true ∧ Q (.str (Txt.zfill a i)) H
def rM_rjust : V → List V → Hp → VK → Prop := fun x xs H Q => ∃ (a : Str) (i : Int), x = .str a ∧ xs = [.int i] ∧ PadOk i = true ∧ Q (.str (Txt.rjust a i)) H
def rJoin (K : PySem.W.Frag) : V → List V → Hp → VK → Prop := fun x xs H Q => ∃ a p, ∃ ys : List Str, x = .str a ∧ xs = [.ref p] ∧ (SqL K H p (ys.map V.str) ∨ SqT K H p (ys.map V.str)) ∧
      (ys.map (·.length)).sum + ys.length * a.length ≤ 16777216 ∧ Q (.str (Txt.join a ys)) H
def rPOP : V → List V → Hp → VK → Prop := rPopAt
theorem mt_POP : MtR X "list.pop" rPOP := mt_popAt
theorem mt_FIND : MtR X "str.find" rM_find := mt_find
theorem mt_ZFILL : MtR X "str.zfill" rM_zfill := mt_zfill
theorem mt_RJUST : MtR X "str.rjust" rM_rjust := mt_rjust
/-- {x:0wd}: a number not below 0, with noughts ahead up to w signs -/
def zpad (w : Nat) (i : Int) : Str := ⟨(List.replicate (w - (Nat.toDigits 10 i.toNat).length) 48 ++ (Nat.toDigits 10 i.toNat).map Char.toNat).toArray⟩
end
end My

set_option Elab.async false
set_option linter.all false
set_option maxRecDepth 100000
set_option maxHeartbeats 400000
namespace My
open PySem PySem.Spec PyProof.Rows L2
section
variable {X : Cx}
theorem zpad_of {w : Nat} {a : Int} {D : List Nat} (h0 : 0 ≤ a) (hD : D = (Nat.toDigits 10 a.natAbs).map Char.toNat) (p1 : Nat) (p2 : Nat) (h1 : p1 = w - D.length) (h2 : p2 = 0) :
    (⟨(List.replicate 0 48 ++ [] ++ [] ++ List.replicate p2 48 ++ (List.replicate p1 48 ++ D) ++ [] ++ List.replicate 0 48).toArray⟩ : Str) = zpad w a := by
  subst hD h1 h2
  unfold zpad
  have e : a.natAbs = a.toNat := by omega
  rw [e, List.length_map]
  simp
theorem zpad_len {w : Nat} {a : Int} (h0 : 0 ≤ a) (hl : a.natAbs.log2 < 1920) (hw : w ≤ 100) : (zpad w a).length ≤ sizeLine := by
  have h1 : (Nat.toDigits 10 a.toNat).length ≤ 1921 := by
    have h2 : a.toNat < 10 ^ 1921 := by
      have h3 : a.toNat < 2 ^ 1920 := by
        have h4 : a.toNat = a.natAbs := by omega
        rw [h4]
        by_cases hz : a.natAbs = 0
        · rw [hz]; exact Nat.two_pow_pos _
        · exact (Nat.log2_lt hz).mp hl
      exact Nat.lt_of_lt_of_le h3 (Nat.le_trans (Nat.pow_le_pow_left (show 2 ≤ 10 by decide) 1920) (Nat.pow_le_pow_right (by decide) (by decide)))
    have h5 := (Nat.length_repr_le_iff (n := a.toNat) (k := 1921) (by decide)).mpr h2
    rwa [← String.length_toList, Nat.toList_repr] at h5
  show (List.toArray _).size ≤ sizeLine
  rw [List.size_toArray, List.length_append, List.length_replicate, List.length_map]
  exact Nat.le_trans (show _ ≤ 2100 by omega) (by decide)
theorem ret_text2 {M : Model} {A : Around} {E : Value → Shared → Prop} {s : Shared} {X T : PySem.Str} {Q : PySem.Fin → Shared → Prop} (e : X = T) (hL : T.length ≤ sizeLine) (h : ∀ t k, Q (.done (.ret (.str T t))) { s with toks := k }) : wpAny M A (retStr X) Q E s := by
  subst e
  exact PySem.W.KXf.ret_text rfl hL h
theorem fmt0_meets_3 {a : Int} {t : Tok} (h0 : 0 ≤ a) (hl : a.natAbs.log2 < 1920) :
  ∀ u, Meets (Builtin.«int.__format__» ⟨[.int a t, .str (Str.ofString "03d") u], []⟩) (fun _ R s => ∀ t' k, R (.ok (.ret (.str (zpad 3 a) t'))) { s with toks := k }) := by
  have hn : decide (a < 0) = false := decide_eq_false (by omega)
  intro u
  apply PySem.W.KPc.meets_of
  intro prog w A s Q E h
  unfold Builtin.«int.__format__»
  refine wpAny_bind (wpAny_of_eq (a := (_, _)) rfl ?_)
  refine wpAny_bind (wpAny_of_eq (a := _) rfl ?_)
  kxf_if
  refine wpAny_bind (wpAny_typeNameOf (T := "str") (typeIs_str _ _ _) (by decide) fun _ => ?_)
  refine wpAny_bind (wpAny_of_eq (a := some _) rfl ?_)
  kxf_if
  kxf_if
  refine wpAny_bind (wpAny_typeNameOfCut_int ?_)
  (repeat kxf_if)
  refine wpAny_bind (wpAny_of_eq (PySem.overDigitLimit_small hl) ?_)
  (repeat kxf_if)
  refine ret_text2 (T := zpad 3 a) ?_ (zpad_len h0 hl (by decide)) (fun t' k => h t' k)
  rw [hn]
  generalize hD : (List.map _ (Nat.toDigits _ a.natAbs)) = D
  have hD' : D = (Nat.toDigits 10 a.natAbs).map Char.toNat := hD.symm
  clear hD
  cases D with
  | nil => exact absurd (congrArg List.length hD') (by rw [List.length_map]; have := Nat.length_toDigits_pos (b := 10) (n := a.natAbs); simp; omega)
  | cons d ds =>
    refine zpad_of h0 hD' _ _ ?_ ?_
    · rfl
    · show ((3 : Int) - 0 - (((List.replicate (3 - (d :: ds).length) 48 ++ (d :: ds)).length : Nat) : Int)).toNat = 0
      rw [List.length_append, List.length_replicate]
      omega
theorem fmt0_meets_4 {a : Int} {t : Tok} (h0 : 0 ≤ a) (hl : a.natAbs.log2 < 1920) :
  ∀ u, Meets (Builtin.«int.__format__» ⟨[.int a t, .str (Str.ofString "04d") u], []⟩) (fun _ R s => ∀ t' k, R (.ok (.ret (.str (zpad 4 a) t'))) { s with toks := k }) := by
  have hn : decide (a < 0) = false := decide_eq_false (by omega)
  intro u
  apply PySem.W.KPc.meets_of
  intro prog w A s Q E h
  unfold Builtin.«int.__format__»
  refine wpAny_bind (wpAny_of_eq (a := (_, _)) rfl ?_)
  refine wpAny_bind (wpAny_of_eq (a := _) rfl ?_)
  kxf_if
  refine wpAny_bind (wpAny_typeNameOf (T := "str") (typeIs_str _ _ _) (by decide) fun _ => ?_)
  refine wpAny_bind (wpAny_of_eq (a := some _) rfl ?_)
  kxf_if
  kxf_if
  refine wpAny_bind (wpAny_typeNameOfCut_int ?_)
  (repeat kxf_if)
  refine wpAny_bind (wpAny_of_eq (PySem.overDigitLimit_small hl) ?_)
  (repeat kxf_if)
  refine ret_text2 (T := zpad 4 a) ?_ (zpad_len h0 hl (by decide)) (fun t' k => h t' k)
  rw [hn]
  generalize hD : (List.map _ (Nat.toDigits _ a.natAbs)) = D
  have hD' : D = (Nat.toDigits 10 a.natAbs).map Char.toNat := hD.symm
  clear hD
  cases D with
  | nil => exact absurd (congrArg List.length hD') (by rw [List.length_map]; have := Nat.length_toDigits_pos (b := 10) (n := a.natAbs); simp; omega)
  | cons d ds =>
    refine zpad_of h0 hD' _ _ ?_ ?_
    · rfl
    · show ((4 : Int) - 0 - (((List.replicate (4 - (d :: ds).length) 48 ++ (d :: ds)).length : Nat) : Int)).toNat = 0
      rw [List.length_append, List.length_replicate]
      omega
theorem fmt0_meets_6 {a : Int} {t : Tok} (h0 : 0 ≤ a) (hl : a.natAbs.log2 < 1920) :
  ∀ u, Meets (Builtin.«int.__format__» ⟨[.int a t, .str (Str.ofString "06d") u], []⟩) (fun _ R s => ∀ t' k, R (.ok (.ret (.str (zpad 6 a) t'))) { s with toks := k }) := by
  have hn : decide (a < 0) = false := decide_eq_false (by omega)
  intro u
  apply PySem.W.KPc.meets_of
  intro prog w A s Q E h
  unfold Builtin.«int.__format__»
  refine wpAny_bind (wpAny_of_eq (a := (_, _)) rfl ?_)
  refine wpAny_bind (wpAny_of_eq (a := _) rfl ?_)
  kxf_if
  refine wpAny_bind (wpAny_typeNameOf (T := "str") (typeIs_str _ _ _) (by decide) fun _ => ?_)
  refine wpAny_bind (wpAny_of_eq (a := some _) rfl ?_)
  kxf_if
  kxf_if
  refine wpAny_bind (wpAny_typeNameOfCut_int ?_)
  (repeat kxf_if)
  refine wpAny_bind (wpAny_of_eq (PySem.overDigitLimit_small hl) ?_)
  (repeat kxf_if)
  refine ret_text2 (T := zpad 6 a) ?_ (zpad_len h0 hl (by decide)) (fun t' k => h t' k)
  rw [hn]
  generalize hD : (List.map _ (Nat.toDigits _ a.natAbs)) = D
  have hD' : D = (Nat.toDigits 10 a.natAbs).map Char.toNat := hD.symm
  clear hD
  cases D with
  | nil => exact absurd (congrArg List.length hD') (by rw [List.length_map]; have := Nat.length_toDigits_pos (b := 10) (n := a.natAbs); simp; omega)
  | cons d ds =>
    refine zpad_of h0 hD' _ _ ?_ ?_
    · rfl
    · show ((6 : Int) - 0 - (((List.replicate (6 - (d :: ds).length) 48 ++ (d :: ds)).length : Nat) : Int)).toNat = 0
      rw [List.length_append, List.length_replicate]
      omega
theorem fmt0_meets_8 {a : Int} {t : Tok} (h0 : 0 ≤ a) (hl : a.natAbs.log2 < 1920) :
  ∀ u, Meets (Builtin.«int.__format__» ⟨[.int a t, .str (Str.ofString "08d") u], []⟩) (fun _ R s => ∀ t' k, R (.ok (.ret (.str (zpad 8 a) t'))) { s with toks := k }) := by
  have hn : decide (a < 0) = false := decide_eq_false (by omega)
  intro u
  apply PySem.W.KPc.meets_of
  intro prog w A s Q E h
  unfold Builtin.«int.__format__»
  refine wpAny_bind (wpAny_of_eq (a := (_, _)) rfl ?_)
  refine wpAny_bind (wpAny_of_eq (a := _) rfl ?_)
  kxf_if
  refine wpAny_bind (wpAny_typeNameOf (T := "str") (typeIs_str _ _ _) (by decide) fun _ => ?_)
  refine wpAny_bind (wpAny_of_eq (a := some _) rfl ?_)
  kxf_if
  kxf_if
  refine wpAny_bind (wpAny_typeNameOfCut_int ?_)
  (repeat kxf_if)
  refine wpAny_bind (wpAny_of_eq (PySem.overDigitLimit_small hl) ?_)
  (repeat kxf_if)
  refine ret_text2 (T := zpad 8 a) ?_ (zpad_len h0 hl (by decide)) (fun t' k => h t' k)
  rw [hn]
  generalize hD : (List.map _ (Nat.toDigits _ a.natAbs)) = D
  have hD' : D = (Nat.toDigits 10 a.natAbs).map Char.toNat := hD.symm
  clear hD
  cases D with
  | nil => exact absurd (congrArg List.length hD') (by rw [List.length_map]; have := Nat.length_toDigits_pos (b := 10) (n := a.natAbs); simp; omega)
  | cons d ds =>
    refine zpad_of h0 hD' _ _ ?_ ?_
    · rfl
    · show ((8 : Int) - 0 - (((List.replicate (8 - (d :: ds).length) 48 ++ (d :: ds)).length : Nat) : Int)).toNat = 0
      rw [List.length_append, List.length_replicate]
      omega
/-- 0wd: the specs that are served -/
def FmtW (spec : Str) (w : Nat) : Prop := (spec = Str.ofString "06d" ∧ w = 6) ∨ (spec = Str.ofString "04d" ∧ w = 4) ∨ (spec = Str.ofString "03d" ∧ w = 3) ∨ (spec = Str.ofString "08d" ∧ w = 8)
def tFmt0 (w : Nat) (te : TE) : TE := fun σ H Q => te σ H fun x H1 => ∃ i : Int, x = .int i ∧ 0 ≤ i ∧ i.natAbs.log2 < 1920 ∧ Q (.str (zpad w i)) H1
theorem pe_fmt0 (w : Nat) {spec : Str} {e : Expr} {te : TE} {j : Nat} {p1 p2 pos : Pos} (he : PE X e te) (hs : FmtW spec w := by first | exact .inl ⟨rfl, rfl⟩ | exact .inr (.inl ⟨rfl, rfl⟩) | exact .inr (.inr (.inl ⟨rfl, rfl⟩)) | exact .inr (.inr (.inr ⟨rfl, rfl⟩))) :
    PE X (.FormattedValue e (-1) (some (.JoinedStr [.Constant (.str spec) j p1] p2)) pos) (tFmt0 w te) := by
  refine ⟨fun pins s σ H Q I h => ?_⟩
  refine wpAny_FormattedValue_spec (thn (he.run pins s σ H _ I h) fun v s1 hv => ?_)
  obtain ⟨x, H1, I1, r1, i, rfl, h0, hl, q⟩ := hv
  obtain ⟨t, rfl⟩ := r1
  refine wpAny_JoinedStr_one (Calls.Constant_str ⟨spec, _, rfl, ?_⟩)
  rcases hs with ⟨rfl, rfl⟩ | ⟨rfl, rfl⟩ | ⟨rfl, rfl⟩ | ⟨rfl, rfl⟩
  · exact PySem.W.KXf.field_int rfl (by decide) (by decide) (fmt0_meets_6 h0 hl) fun t' k => ⟨.str (zpad 6 i), H1, I1.tok _, ⟨t', rfl⟩, q⟩
  · exact PySem.W.KXf.field_int rfl (by decide) (by decide) (fmt0_meets_4 h0 hl) fun t' k => ⟨.str (zpad 4 i), H1, I1.tok _, ⟨t', rfl⟩, q⟩
  · exact PySem.W.KXf.field_int rfl (by decide) (by decide) (fmt0_meets_3 h0 hl) fun t' k => ⟨.str (zpad 3 i), H1, I1.tok _, ⟨t', rfl⟩, q⟩
  · exact PySem.W.KXf.field_int rfl (by decide) (by decide) (fmt0_meets_8 h0 hl) fun t' k => ⟨.str (zpad 8 i), H1, I1.tok _, ⟨t', rfl⟩, q⟩
end
end My

set_option Elab.async false
set_option linter.all false
set_option maxRecDepth 100000
set_option maxHeartbeats 400000
/-! ### readings, step by step -/
namespace My
open PySem PySem.Spec PyProof.Rows L2
abbrev St := L2.St
section
variable {K : PySem.W.Frag} {σ : St} {H : Hp} {Q : VK} {ta tb tc te : TE} {t u c : TT} {tr tr' : TA} {r r' : R2} {v x y z : V}
theorem x_var {i : Nat} (h : σ[i]? = some (some v)) (q : Q v H) : tVar i σ H Q := ⟨v, h, q⟩
theorem x_c (q : Q v H) : tC v σ H Q := q
theorem x_op (h : ta σ H fun x H1 => tb σ H1 fun y H2 => r x y H2 Q) : tOp r ta tb σ H Q := h
theorem x_un {r : V → Hp → VK → Prop} (h : ta σ H fun x H1 => r x H1 Q) : tUn r ta σ H Q := h
theorem x_tst {Q : Bool → Hp → Prop} (h : te σ H fun x H' => ∃ k, x = .bl k ∧ Q k H') : tTest te σ H Q := h
theorem x_bl {Q : Bool → Hp → Prop} {b : Bool} (h : Q b H) : ∃ k, V.bl b = .bl k ∧ Q k H := ⟨b, rfl, h⟩
theorem x_tru {Q : Bool → Hp → Prop} (h : ta σ H fun x H' => ∃ k, TruV K x H' k ∧ Q k H') : tTru1 K ta σ H Q := h
theorem x_truB {P : Bool → Prop} {b : Bool} (h : P b) : ∃ k, TruV K (.bl b) H k ∧ P k := ⟨b, rfl, h⟩
theorem x_truL {P : Bool → Prop} {p : Addr} {xs : List V} (hs : SqL K H p xs) (h : P (!xs.isEmpty)) : ∃ k, TruV K (.ref p) H k ∧ P k := ⟨_, .inl ⟨xs, hs, rfl⟩, h⟩
theorem x_truT {P : Bool → Prop} {p : Addr} {xs : List V} (hs : SqT K H p xs) (h : P (!xs.isEmpty)) : ∃ k, TruV K (.ref p) H k ∧ P k := ⟨_, .inr (.inl ⟨xs, hs, rfl⟩), h⟩
theorem x_truS {P : Bool → Prop} {s : Str} (hs : s.length ≤ sizeLine) (h : P ((s.length : Int) != 0)) : ∃ k, TruV K (.str s) H k ∧ P k := ⟨_, ⟨hs, rfl⟩, h⟩
theorem x_not {Q : Bool → Hp → Prop} (h : t σ H fun c H1 => Q (!c) H1) : tNot t σ H Q := h
theorem x_and {Q : Bool → Hp → Prop} (h : t σ H fun c H1 => if c = true then u σ H1 Q else Q false H1) : tAnd t u σ H Q := h
theorem x_or {Q : Bool → Hp → Prop} (h : t σ H fun c H1 => if c = true then Q true H1 else u σ H1 Q) : tOr t u σ H Q := h
theorem x_andV (h : ta σ H fun x H1 => ∃ c, x = .bl c ∧ if c = true then tb σ H1 Q else Q (.bl false) H1) : tAndV ta tb σ H Q := h
theorem x_orV (h : ta σ H fun x H1 => ∃ c, x = .bl c ∧ if c = true then Q (.bl true) H1 else tb σ H1 Q) : tOrV ta tb σ H Q := h
theorem x_notV (h : ta σ H fun x H1 => ∃ c, x = .bl c ∧ Q (.bl (!c)) H1) : tNotV ta σ H Q := h
theorem x_bl2 {b : Bool} {P : Bool → Prop} (h : P b) : ∃ k, V.bl b = .bl k ∧ P k := ⟨b, rfl, h⟩
theorem x_yes {Q : Bool → Hp → Prop} (h : Q true H) : tYes σ H Q := h
theorem x_if (h : c σ H fun b H1 => if b = true then ta σ H1 Q else tb σ H1 Q) : tIf c ta tb σ H Q := h
theorem x_nil {Q : List V → Hp → Prop} (q : Q [] H) : tNil σ H Q := q
theorem x_cons {Q : List V → Hp → Prop} (h : ta σ H fun x H1 => tr σ H1 fun xs H2 => Q (x :: xs) H2) : tCons ta tr σ H Q := h
theorem x_tup (h : tr σ H fun xs H1 => xs.length ≤ sizeLine ∧ ∀ p, H1 p = none → Q (.ref p) (upd H1 p (.tup xs))) : tTup tr σ H Q := h
theorem x_lst (h : tr σ H fun xs H1 => xs.length ≤ sizeLine ∧ ∀ p, H1 p = none → Q (.ref p) (upd H1 p (.lst xs))) : tLst tr σ H Q := h
theorem x_call {sp : Sp} {E : XK} (h : tr σ H fun vs H1 => sp vs H1 Q E) : tCall sp [] E tr σ H Q := by
  have e : (fun (vs : List V) (H1 : Hp) => sp (vs ++ []) H1 Q E) = fun vs H1 => sp vs H1 Q E := by funext vs H1; rw [List.append_nil]
  show tr σ H fun vs H1 => sp (vs ++ []) H1 Q E
  rw [e]
  exact h
theorem x_callK {sp : Sp} {gV : List V → List V → List V} {E : XK} (h : tr σ H fun vs H1 => tr' σ H1 fun zs H2 => sp (gV vs zs) H2 Q E) : tCallK sp gV E tr tr' σ H Q := h
theorem x_callK0 {sp : Sp} {gV : List V → List V → List V} {E : XK} (h : tr σ H fun zs H2 => sp (gV [] zs) H2 Q E) : tCallK0 sp gV E tr σ H Q := h
theorem x_cb {r : List V → Hp → VK → Prop} (h : tr σ H fun vs H1 => r vs H1 Q) : tCB r tr σ H Q := h
theorem x_bm {T : String} {r : V → List V → Hp → VK → Prop} (h : ta σ H fun x H1 => tyV K T x H1 ∧ tr σ H1 fun xs H2 => r x xs H2 Q) : tBM K T r ta tr σ H Q := h
theorem x_bm0 {T : String} {r : V → List V → Hp → VK → Prop} (h : ta σ H fun x H1 => tyV K T x H1 ∧ r x [] H1 Q) : tBM0 K T r ta σ H Q := h
theorem x_tyS {s : Str} {P : Prop} (h : P) : tyV K "str" (.str s) H ∧ P := ⟨rfl, h⟩
theorem x_tyL {p : Addr} {xs : List V} {P : Prop} (hs : SqL K H p xs) (h : P) : tyV K "list" (.ref p) H ∧ P := ⟨.inl ⟨rfl, xs, hs⟩, h⟩
theorem x_sl {r : V → Option Int → Option Int → Hp → VK → Prop} {tl th : TO} (h : te σ H fun x H1 => tl σ H1 fun l H2 => th σ H2 fun u H3 => r x l u H3 Q) : tSl r te tl th σ H Q := h
theorem x_nopart {Q : Option Int → Hp → Prop} (h : Q none H) : tNoPart σ H Q := h
theorem x_part {Q : Option Int → Hp → Prop} (h : te σ H fun x H1 => ∃ i, x = .int i ∧ Q (some i) H1) : tPart te σ H Q := h
theorem x_int {i : Int} {P : Int → Prop} (h : P i) : ∃ k, V.int i = .int k ∧ P k := ⟨i, rfl, h⟩
theorem x_str {s : Str} {P : Str → Prop} (h : P s) : ∃ k, V.str s = .str k ∧ P k := ⟨s, rfl, h⟩
theorem x_fmt (h : te σ H fun x H1 => (∃ y : Str, x = .str y ∧ y.length ≤ sizeLine ∧ Q (.str y) H1) ∨ ∃ i : Int, x = .int i ∧ i.natAbs.log2 < 1920 ∧ Q (.str (toString i)) H1) : tFmt te σ H Q := h
theorem x_fmtS {s : Str} {P : Int → Prop} (hs : s.length ≤ sizeLine) (h : Q (.str s) H) : (∃ y : Str, V.str s = .str y ∧ y.length ≤ sizeLine ∧ Q (.str y) H) ∨ ∃ i : Int, V.str s = .int i ∧ i.natAbs.log2 < 1920 ∧ Q (.str (toString i)) H := .inl ⟨s, rfl, hs, h⟩
theorem x_fmt0 {w : Nat} (h : te σ H fun x H1 => ∃ i : Int, x = .int i ∧ 0 ≤ i ∧ i.natAbs.log2 < 1920 ∧ Q (.str (zpad w i)) H1) : tFmt0 w te σ H Q := h
theorem x_fmtI {w : Nat} {i : Int} (h0 : 0 ≤ i) (hl : i.natAbs.log2 < 1920) (h : Q (.str (zpad w i)) H) : ∃ k : Int, V.int i = .int k ∧ 0 ≤ k ∧ k.natAbs.log2 < 1920 ∧ Q (.str (zpad w k)) H := ⟨i, rfl, h0, hl, h⟩
theorem x_js0 {acc : Str} {Q : Str → Hp → Prop} (h : Q acc H) : tJs [] acc σ H Q := h
theorem x_js {acc : Str} {Q : Str → Hp → Prop} {ts : List TE} (h : te σ H fun x H1 => ∃ y : Str, x = .str y ∧ (acc ++ y).length ≤ sizeLine ∧ tJs ts (acc ++ y) σ H1 Q) : tJs (te :: ts) acc σ H Q := h
theorem x_jsS {s acc : Str} {Q : Str → Hp → Prop} {ts : List TE} (hs : (acc ++ s).length ≤ sizeLine) (h : tJs ts (acc ++ s) σ H Q) : ∃ y : Str, V.str s = .str y ∧ (acc ++ y).length ≤ sizeLine ∧ tJs ts (acc ++ y) σ H Q := ⟨s, rfl, hs, h⟩
theorem x_chain (h : ta σ H fun x H1 => tb σ H1 fun y H2 => r x y H2 fun z H3 => ∃ k, z = .bl k ∧ (if k = true then tc σ H3 fun w' H4 => r' y w' H4 Q else Q (.bl false) H3)) : tChain r r' ta tb tc σ H Q := h
/-! leaves -/
theorem a_ii {i j : Int} (h : Q (.int (i + j)) H) : rADD K (.int i) (.int j) H Q := .inl ⟨i, j, rfl, rfl, h⟩
theorem a_ss {i j : Str} (hl : i.length + j.length ≤ sizeLine) (h : Q (.str (i ++ j)) H) : rADD K (.str i) (.str j) H Q := .inr (.inl ⟨i, j, rfl, rfl, hl, h⟩)
theorem a_ll {p q : Addr} {xs ys : List V} (hp : H p = some (.lst xs)) (hq : H q = some (.lst ys)) (hl : xs.length + ys.length ≤ sizeLine) (h : ∀ l, H l = none → Q (.ref l) (upd H l (.lst (xs ++ ys)))) : rADD K (.ref p) (.ref q) H Q :=
  .inr (.inr (.inl ⟨p, q, xs, ys, rfl, rfl, hp, hq, hl, h⟩))
theorem a_tt {p q : Addr} {xs ys : List V} (hp : SqT K H p xs) (hq : SqT K H q ys) (hl : xs.length + ys.length ≤ sizeLine) (h : (xs = [] → Q (.ref q) H) ∧ (xs ≠ [] → ys = [] → Q (.ref p) H) ∧ (xs ≠ [] → ys ≠ [] → ∀ l, H l = none → Q (.ref l) (upd H l (.tup (xs ++ ys))))) : rADD K (.ref p) (.ref q) H Q :=
  .inr (.inr (.inr ⟨p, q, xs, ys, rfl, rfl, hp, hq, hl, h⟩))
theorem s_ii {i j : Int} (h : Q (.int (i - j)) H) : rSUB (.int i) (.int j) H Q := ⟨i, j, rfl, rfl, h⟩
theorem m_ii {i j : Int} (hc : CMulA i j) (h : Q (.int (i * j)) H) : rMUL K (.int i) (.int j) H Q := .inl ⟨i, j, rfl, rfl, hc, h⟩
theorem m_si {s : Str} {k : Int} (h1 : -(2 ^ 63) ≤ k) (h2 : k < 2 ^ 63) (hl : s.length * k.toNat ≤ sizeLine) (h : Q (.str (repS s k)) H) : rMUL K (.str s) (.int k) H Q := .inr (.inl ⟨s, k, rfl, rfl, h1, h2, hl, h⟩)
theorem m_li {p : Addr} {xs : List V} {k : Int} (hp : H p = some (.lst xs)) (h1 : -(2 ^ 63) ≤ k) (h2 : k < 2 ^ 63) (hl : xs.length * k.toNat ≤ sizeLine) (h : ∀ l, H l = none → Q (.ref l) (upd H l (.lst (List.replicate k.toNat xs).flatten))) : rMUL K (.ref p) (.int k) H Q :=
  .inr (.inr ⟨p, k, xs, rfl, rfl, hp, h1, h2, hl, h⟩)
theorem md_ii {i j : Int} (hc : 0 < j) (h : Q (.int (i % j)) H) : rMOD (.int i) (.int j) H Q := ⟨i, j, rfl, rfl, hc, h⟩
theorem fd_ii {i j : Int} (hc : CDivW i j) (h : Q (.int (i / j)) H) : rFDIV (.int i) (.int j) H Q := ⟨i, j, rfl, rfl, hc, h⟩
theorem pw_ii {i j : Int} (hc : CPow i j) (h : Q (.int (i ^ j.toNat)) H) : rPOW (.int i) (.int j) H Q := ⟨i, j, rfl, rfl, hc, h⟩
theorem n_i {i : Int} (h : Q (.int (-i)) H) : rNEG (.int i) H Q := ⟨i, rfl, h⟩
theorem e_ii {i j : Int} (h : Q (.bl (decide (i = j))) H) : rEQ K (.int i) (.int j) H Q := .inl ⟨rfl, by rw [show decide (V.int i = V.int j) = decide (i = j) by simp]; exact h⟩
theorem e_ss {i j : Str} (h : Q (.bl (decide (i = j))) H) : rEQ K (.str i) (.str j) H Q := .inl ⟨rfl, by rw [show decide (V.str i = V.str j) = decide (i = j) by simp]; exact h⟩
theorem e_bb {i j : Bool} (h : Q (.bl (decide (i = j))) H) : rEQ K (.bl i) (.bl j) H Q := .inl ⟨rfl, by rw [show decide (V.bl i = V.bl j) = decide (i = j) by simp]; exact h⟩
theorem e_d {d e : PyData} (hd : Dp K H x d) (he : Dp K H y e) (h1 : SeqAt.shaped d = true) (h2 : SeqAt.shaped e = true) (h : Q (.bl (PyData.eqv d e)) H) : rEQ K x y H Q := .inr ⟨d, e, hd, he, h1, h2, h⟩
theorem ne_ii {i j : Int} (h : Q (.bl (!decide (i = j))) H) : rNE K (.int i) (.int j) H Q := .inl ⟨rfl, by rw [show decide (V.int i = V.int j) = decide (i = j) by simp]; exact h⟩
theorem ne_ss {i j : Str} (h : Q (.bl (!decide (i = j))) H) : rNE K (.str i) (.str j) H Q := .inl ⟨rfl, by rw [show decide (V.str i = V.str j) = decide (i = j) by simp]; exact h⟩
theorem ne_bb {i j : Bool} (h : Q (.bl (!decide (i = j))) H) : rNE K (.bl i) (.bl j) H Q := .inl ⟨rfl, by rw [show decide (V.bl i = V.bl j) = decide (i = j) by simp]; exact h⟩
theorem ne_d {d e : PyData} (hd : Dp K H x d) (he : Dp K H y e) (h1 : SeqAt.shaped d = true) (h2 : SeqAt.shaped e = true) (h : Q (.bl (!PyData.eqv d e)) H) : rNE K x y H Q := .inr ⟨d, e, hd, he, h1, h2, h⟩
theorem lt_ii {i j : Int} (h : Q (.bl (decide (i < j))) H) : rLT (.int i) (.int j) H Q := .inl ⟨i, j, rfl, rfl, h⟩
theorem lt_ss {i j : Str} (h : Q (.bl (decide (i.cps.toList < j.cps.toList))) H) : rLT (.str i) (.str j) H Q := .inr ⟨i, j, rfl, rfl, h⟩
theorem le_ii {i j : Int} (h : Q (.bl (decide (i ≤ j))) H) : rLE (.int i) (.int j) H Q := .inl ⟨i, j, rfl, rfl, h⟩
theorem gt_ii {i j : Int} (h : Q (.bl (decide (j < i))) H) : rGT (.int i) (.int j) H Q := .inl ⟨i, j, rfl, rfl, h⟩
theorem gt_ss {i j : Str} (h : Q (.bl (decide (j.cps.toList < i.cps.toList))) H) : rGT (.str i) (.str j) H Q := .inr ⟨i, j, rfl, rfl, h⟩
theorem ge_ii {i j : Int} (h : Q (.bl (decide (j ≤ i))) H) : rGE (.int i) (.int j) H Q := .inl ⟨i, j, rfl, rfl, h⟩
theorem is_N (h : Q (.bl (decide (x = .non))) H) : rIS K x .non H Q := .inl ⟨rfl, h⟩
theorem is_T {m n : String} (h : Q (.bl (decide (m = n))) H) : rIS K (.ty m) (.ty n) H Q := .inr (.inl ⟨m, n, rfl, rfl, h⟩)
theorem is_B {b : Bool} (h : Q (.bl (decide (x = .bl b))) H) : rIS K x (.bl b) H Q := .inr (.inr ⟨b, rfl, h⟩)
theorem isn_N (h : Q (.bl (!decide (x = .non))) H) : rISN K x .non H Q := .inl ⟨rfl, h⟩
theorem isn_T {m n : String} (h : Q (.bl (!decide (m = n))) H) : rISN K (.ty m) (.ty n) H Q := .inr (.inl ⟨m, n, rfl, rfl, h⟩)
theorem isn_B {b : Bool} (h : Q (.bl (!decide (x = .bl b))) H) : rISN K x (.bl b) H Q := .inr (.inr ⟨b, rfl, h⟩)
theorem in_s {c : Nat} {z : Str} (h : Q (.bl (decide (c ∈ z.cps.toList))) H) : rINU K (.str ⟨#[c]⟩) (.str z) H Q := .inl ⟨c, z, rfl, rfl, h⟩
theorem nin_s {c : Nat} {z : Str} (h : Q (.bl (!decide (c ∈ z.cps.toList))) H) : rNINU K (.str ⟨#[c]⟩) (.str z) H Q := .inl ⟨c, z, rfl, rfl, h⟩
theorem ix_L {p : Addr} {xs : List V} {i : Int} (hs : SqL K H p xs) (ha : atI xs i = some v) (h : Q v H) : rIX K (.ref p) (.int i) H Q := .inl ⟨p, xs, i, v, rfl, rfl, hs, ha, h⟩
theorem ix_T {p : Addr} {xs : List V} {i : Int} (hs : SqT K H p xs) (ha : atI xs i = some v) (h : Q v H) : rIX K (.ref p) (.int i) H Q := .inr (.inl ⟨p, xs, i, v, rfl, rfl, hs, ha, h⟩)
theorem ix_S {z : Str} {i : Int} {c : Nat} (hl : z.length ≤ sizeLine) (ha : atI z.cps.toList i = some c) (h : Q (.str ⟨#[c]⟩) H) : rIX K (.str z) (.int i) H Q := .inr (.inr ⟨z, i, c, rfl, rfl, hl, ha, h⟩)
theorem sl_S {z : Str} {lo hi : Option Int} (hl : z.length ≤ sizeLine) (h : Q (.str (cutS z lo hi)) H) : rSL K (.str z) lo hi H Q := .inl ⟨z, rfl, hl, h⟩
theorem sl_L {p : Addr} {xs : List V} {lo hi : Option Int} (hs : SqL K H p xs) (h : ∀ l, H l = none → Q (.ref l) (upd H l (.lst (cutV xs lo hi)))) : rSL K (.ref p) lo hi H Q := .inr (.inl ⟨p, xs, rfl, hs, h⟩)
theorem i_i {i : Int} (h : Q (.int i) H) : rINT [.int i] H Q := .inl (.inl ⟨i, rfl, h⟩)
theorem i_b {b : Bool} (h : Q (.int (if b then 1 else 0)) H) : rINT [.bl b] H Q := .inl (.inr ⟨b, rfl, h⟩)
theorem i_s {a : Str} {n : Int} (ha : PySem.intText? a = some n) (hl : a.length ≤ 640) (h : Q (.int n) H) : rINT [.str a] H Q := .inr ⟨a, n, rfl, ha, hl, h⟩
theorem st_i {i : Int} (hl : i.natAbs.log2 < 1920) (h : Q (.str (toString i)) H) : rSTR [.int i] H Q := ⟨i, rfl, hl, h⟩
theorem ln_s {z : Str} (hl : z.length ≤ sizeLine) (h : Q (.int z.length) H) : rLEN K [.str z] H Q := .inl ⟨z, rfl, hl, h⟩
theorem ln_l {p : Addr} {xs : List V} (hs : SqL K H p xs) (h : Q (.int xs.length) H) : rLEN K [.ref p] H Q := .inr ⟨p, xs, rfl, .inl hs, h⟩
theorem ln_t {p : Addr} {xs : List V} (hs : SqT K H p xs) (h : Q (.int xs.length) H) : rLEN K [.ref p] H Q := .inr ⟨p, xs, rfl, .inr hs, h⟩
theorem ab_i {i : Int} (h : Q (.int (if i < 0 then -i else i)) H) : rABS [.int i] H Q := ⟨i, rfl, h⟩
theorem mx_ii {i j : Int} (h : Q (.int (if j > i then j else i)) H) : rMAX2 [.int i, .int j] H Q := ⟨i, j, rfl, h⟩
theorem mn_ii {i j : Int} (h : Q (.int (if j < i then j else i)) H) : rMIN2 [.int i, .int j] H Q := ⟨i, j, rfl, h⟩
theorem ty_N (h : Q (.ty "NoneType") H) : rTyp K [.non] H Q := ⟨_, _, rfl, .non, h⟩
theorem ty_B {b : Bool} (h : Q (.ty "bool") H) : rTyp K [.bl b] H Q := ⟨_, _, rfl, .bl b, h⟩
theorem ty_I {i : Int} (h : Q (.ty "int") H) : rTyp K [.int i] H Q := ⟨_, _, rfl, .int i, h⟩
theorem ty_S {s : Str} (h : Q (.ty "str") H) : rTyp K [.str s] H Q := ⟨_, _, rfl, .str s, h⟩
theorem ty_L {p : Addr} {xs : List V} (hs : SqL K H p xs) (h : Q (.ty "list") H) : rTyp K [.ref p] H Q := ⟨_, _, rfl, .lst hs, h⟩
theorem ty_T {p : Addr} {xs : List V} (hs : SqT K H p xs) (h : Q (.ty "tuple") H) : rTyp K [.ref p] H Q := ⟨_, _, rfl, .tup hs, h⟩
theorem ma_s {s : Str} (h : Q (.bl (Txt.isascii s)) H) : rM_isascii (.str s) [] H Q := ⟨s, rfl, rfl, True.intro, h⟩
theorem mp_s {s : Str} (h : Q (.bl (Txt.isprintable s)) H) : rM_isprintable (.str s) [] H Q := ⟨s, rfl, rfl, True.intro, h⟩
theorem mdg_s {s : Str} (h : Q (.bl (Txt.isdigit s)) H) : rM_isdigit (.str s) [] H Q := ⟨s, rfl, rfl, True.intro, h⟩
theorem mf_s {s u : Str} (h : Q (.int (Txt.find s u)) H) : rM_find (.str s) [.str u] H Q := ⟨s, u, rfl, rfl, h⟩
theorem al_b {p : Addr} {bs : List Bool} (hs : SqL K H p (bs.map V.bl)) (h : Q (.bl (bs.all id)) H) : rAll K [.ref p] H Q := ⟨p, bs, rfl, hs, h⟩
/-! statements -/
variable {n b k : St → Hp → Prop} {rt : VK} {p q s w : TS} {g : TG} {D : Ends}
theorem s_seq (h : p ⟨q ⟨n, rt, b, k⟩, rt, b, k⟩ σ H) : tSeq p q ⟨n, rt, b, k⟩ σ H := h
theorem s_asg (h : te σ H fun x H1 => g x σ H1 n) : tAsg te g ⟨n, rt, b, k⟩ σ H := h
theorem s_gn {i : Nat} {N : St → Hp → Prop} (h : N (σ.set i (some v)) H) : gName i v σ H N := h
theorem s_if (h : c σ H fun d H1 => if d = true then p D σ H1 else q D σ H1) : tIfS c p q D σ H := h
theorem s_ret (h : te σ H rt) : tRet te ⟨n, rt, b, k⟩ σ H := h
theorem s_retN (h : rt .non H) : tRetN ⟨n, rt, b, k⟩ σ H := h
theorem s_next (h : n σ H) : tNext ⟨n, rt, b, k⟩ σ H := h
theorem s_brk (h : b σ H) : tBreak ⟨n, rt, b, k⟩ σ H := h
theorem s_cont (h : k σ H) : tCont ⟨n, rt, b, k⟩ σ H := h
theorem s_drop (h : te σ H fun _ H1 => n σ H1) : tDrop te ⟨n, rt, b, k⟩ σ H := h
theorem s_par {i j : Nat} (h : tr σ H fun vs H1 => ∃ v w, vs = [v, w] ∧ n ((σ.set i (some v)).set j (some w)) H1) : tPar i j tr ⟨n, rt, b, k⟩ σ H := h
theorem s_par3 {i j l : Nat} (h : tr σ H fun vs H1 => ∃ u v w, vs = [u, v, w] ∧ n (((σ.set i (some u)).set j (some v)).set l (some w)) H1) : tPar3 i j l tr ⟨n, rt, b, k⟩ σ H := h
theorem x_gsub {to ti : TE} {t : TSet} {N : St → Hp → Prop} (h : to σ H fun o H1 => ti σ H1 fun i H2 => t o i v H2 fun H3 => N σ H3) : gSub to ti t v σ H N := h
theorem st_L {p : Addr} {xs : List V} {i : Int} {N : Hp → Prop} (hp : H p = some (.lst xs)) (h0 : 0 ≤ i) (h1 : i < (xs.length : Int)) (h : N (upd H p (.lst (xs.set i.toNat v)))) : rSetL (.ref p) (.int i) v H N := by
  refine ⟨p, xs, i, i.toNat, rfl, rfl, hp, ?_, h⟩
  unfold ixN
  rw [if_pos h0]
  first | rw [if_pos h1] | simp [h1]
theorem pop_L {p : Addr} {x : V} {xs : List V} (hp : H p = some (.lst (x :: xs))) (h : Q x (upd H p (.lst xs))) : rPOP (.ref p) [.int 0] H Q := by
  refine ⟨p, x :: xs, 0, 0, x, rfl, rfl, hp, by decide, by decide, ?_, rfl, h⟩
  simp [seqIndex?]
theorem w_while {c : TT} {tb : TS} (W : Nat → St → Hp → Prop) (m0 : Nat) (h0 : W m0 σ H) (hs : ∀ m σ H, W m σ H → c σ H fun d H1 => if d = true then ∃ N : St → Hp → Prop, (∀ σ' H', N σ' H' → ∃ m', m' < m ∧ W m' σ' H') ∧ tb ⟨N, rt, n, N⟩ σ H1 else n σ H1) : tWhile c tb ⟨n, rt, b, k⟩ σ H :=
  ⟨W, ⟨m0, h0⟩, hs⟩
/-! loops -/
def LoopW (J : It) (g : TG) (tb : TS) (n : St → Hp → Prop) (rt : VK) (σ : St) (H : Hp) : Prop := ∃ W : Nat → Nat → St → Hp → Prop, (∃ m, W 0 m σ H) ∧ ∀ i m σ H, W i m σ H →
  (J.stop i H ∧ n σ H) ∨ (J.go i H ∧ ∃ N : St → Hp → Prop, (∀ σ' H', N σ' H' → ∃ m', m' < m ∧ W (i + 1) m' σ' H') ∧ ∀ x H', J.yld i H x H' → g x σ H' fun σ2 H2 => tb ⟨N, rt, n, N⟩ σ2 H2)
def ForR1 (g : TG) (tb : TS) (n : St → Hp → Prop) (rt : VK) (σ : St) (vs : List V) (H : Hp) : Prop := ∃ j : Int, vs = [.int j] ∧ -(2 ^ 62) ≤ j ∧ j < 2 ^ 62 ∧ LoopW (Itr 0 j.toNat) g tb n rt σ H
def ForR2 (g : TG) (tb : TS) (n : St → Hp → Prop) (rt : VK) (σ : St) (vs : List V) (H : Hp) : Prop := ∃ i j : Int, vs = [.int i, .int j] ∧ (-(2 ^ 62) ≤ i ∧ i < 2 ^ 62 ∧ -(2 ^ 62) ≤ j ∧ j < 2 ^ 62) ∧ LoopW (Itr i (j - i).toNat) g tb n rt σ H
def ForL (K : PySem.W.Frag) (g : TG) (tb : TS) (n : St → Hp → Prop) (rt : VK) (σ : St) (x : V) (H : Hp) : Prop := ∃ a, x = .ref a ∧ (∃ xs, SqL K H a xs) ∧ LoopW (Itl K a) g tb n rt σ H
def ForT (K : PySem.W.Frag) (g : TG) (tb : TS) (n : St → Hp → Prop) (rt : VK) (σ : St) (x : V) (H : Hp) : Prop := ∃ a, x = .ref a ∧ (∃ xs, SqT K H a xs) ∧ LoopW (Itt K a) g tb n rt σ H
def ForS (g : TG) (tb : TS) (n : St → Hp → Prop) (rt : VK) (σ : St) (x : V) (H : Hp) : Prop := ∃ z, x = .str z ∧ LoopW (Its z) g tb n rt σ H
theorem f_r1 (h : tr σ H fun vs H1 => ForR1 g p n rt σ vs H1) : tFor (iRng1 tr) g p ⟨n, rt, b, k⟩ σ H := h
theorem f_r2 (h : tr σ H fun vs H1 => ForR2 g p n rt σ vs H1) : tFor (iRng2 tr) g p ⟨n, rt, b, k⟩ σ H := h
theorem f_l (h : te σ H fun x H1 => ForL K g p n rt σ x H1) : tFor (iList K te) g p ⟨n, rt, b, k⟩ σ H := h
theorem f_t (h : te σ H fun x H1 => ForT K g p n rt σ x H1) : tFor (iTup K te) g p ⟨n, rt, b, k⟩ σ H := h
theorem f_s (h : te σ H fun x H1 => ForS g p n rt σ x H1) : tFor (iStr te) g p ⟨n, rt, b, k⟩ σ H := h
theorem loopR {lo : Int} {m : Nat} (Pv : Nat → St → Hp → Prop) (h0 : Pv 0 σ H) (hs : ∀ i σ H, i < m → Pv i σ H → g (.int (lo + i)) σ H fun σ2 H2 => p ⟨Pv (i + 1), rt, n, Pv (i + 1)⟩ σ2 H2) (hd : ∀ σ H, Pv m σ H → n σ H) : LoopW (Itr lo m) g p n rt σ H := for_range (D := ⟨n, rt, n, n⟩) Pv h0 hs hd
theorem loopL {a : Addr} {xs : List V} (Pv : Nat → St → Hp → Prop) (h0 : Pv 0 σ H) (hl : ∀ i σ H, i ≤ xs.length → Pv i σ H → SqL K H a xs) (hs : ∀ i x σ H, xs[i]? = some x → Pv i σ H → g x σ H fun σ2 H2 => p ⟨Pv (i + 1), rt, n, Pv (i + 1)⟩ σ2 H2) (hd : ∀ σ H, Pv xs.length σ H → n σ H) : LoopW (Itl K a) g p n rt σ H := for_list (D := ⟨n, rt, n, n⟩) Pv h0 hl hs hd
theorem loopT {a : Addr} {xs : List V} (Pv : Nat → St → Hp → Prop) (h0 : Pv 0 σ H) (hl : ∀ i σ H, i ≤ xs.length → Pv i σ H → SqT K H a xs) (hs : ∀ i x σ H, xs[i]? = some x → Pv i σ H → g x σ H fun σ2 H2 => p ⟨Pv (i + 1), rt, n, Pv (i + 1)⟩ σ2 H2) (hd : ∀ σ H, Pv xs.length σ H → n σ H) : LoopW (Itt K a) g p n rt σ H := for_tup (D := ⟨n, rt, n, n⟩) Pv h0 hl hs hd
theorem for1_mk {j : Int} (hj : -(2 ^ 62) ≤ j) (hj2 : j < 2 ^ 62) (Pv : Nat → St → Hp → Prop) (h0 : Pv 0 σ H) (hs : ∀ (i : Nat) σ H, i < j.toNat → Pv i σ H → g (.int (i : Int)) σ H fun σ2 H2 => p ⟨Pv (i + 1), rt, n, Pv (i + 1)⟩ σ2 H2) (hd : ∀ σ H, Pv j.toNat σ H → n σ H) : ForR1 g p n rt σ [.int j] H :=
  ⟨j, rfl, hj, hj2, loopR Pv h0 (fun i σ H hi hp => by rw [Int.zero_add]; exact hs i σ H hi hp) hd⟩
theorem for2_mk {lo j : Int} (hj : -(2 ^ 62) ≤ lo ∧ lo < 2 ^ 62 ∧ -(2 ^ 62) ≤ j ∧ j < 2 ^ 62) (Pv : Nat → St → Hp → Prop) (h0 : Pv 0 σ H) (hs : ∀ (i : Nat) σ H, i < (j - lo).toNat → Pv i σ H → g (.int (lo + (i : Int))) σ H fun σ2 H2 => p ⟨Pv (i + 1), rt, n, Pv (i + 1)⟩ σ2 H2) (hd : ∀ σ H, Pv (j - lo).toNat σ H → n σ H) : ForR2 g p n rt σ [.int lo, .int j] H :=
  ⟨lo, j, rfl, hj, loopR Pv h0 hs hd⟩
theorem forL_mk {a : Addr} {xs : List V} (hx : SqL K H a xs) (Pv : Nat → St → Hp → Prop) (h0 : Pv 0 σ H) (hl : ∀ i σ H, i ≤ xs.length → Pv i σ H → SqL K H a xs) (hs : ∀ i x σ H, xs[i]? = some x → Pv i σ H → g x σ H fun σ2 H2 => p ⟨Pv (i + 1), rt, n, Pv (i + 1)⟩ σ2 H2) (hd : ∀ σ H, Pv xs.length σ H → n σ H) : ForL K g p n rt σ (.ref a) H := ⟨a, rfl, ⟨xs, hx⟩, loopL Pv h0 hl hs hd⟩
theorem forT_mk {a : Addr} {xs : List V} (hx : SqT K H a xs) (Pv : Nat → St → Hp → Prop) (h0 : Pv 0 σ H) (hl : ∀ i σ H, i ≤ xs.length → Pv i σ H → SqT K H a xs) (hs : ∀ i x σ H, xs[i]? = some x → Pv i σ H → g x σ H fun σ2 H2 => p ⟨Pv (i + 1), rt, n, Pv (i + 1)⟩ σ2 H2) (hd : ∀ σ H, Pv xs.length σ H → n σ H) : ForT K g p n rt σ (.ref a) H := ⟨a, rfl, ⟨xs, hx⟩, loopT Pv h0 hl hs hd⟩
/-! comprehensions -/
def LcW (J : It) (g : TG) (tt : TT) (te : TE) (vs : List Nat) (σ : St) (Q : VK) (H1 : Hp) : Prop := ∀ D, H1 D = none → ∃ W : Nat → Nat → Hp → Prop, (∃ m, W 0 m (upd H1 D (.lst []))) ∧ ∀ i m H, W i m H →
  (J.stop i H ∧ Q (.ref D) H) ∨ (J.go i H ∧ ∃ Nx : Hp → Prop, (∀ H', Nx H' → ∃ m', m' < m ∧ W (i + 1) m' H') ∧ ∀ x H', J.yld i H x H' → g x (wipe σ vs) H' fun σ2 H2 => wipe σ2 vs = wipe σ vs ∧ tt σ2 H2 fun b H3 =>
    if b = true then te σ2 H3 fun y H4 => ∃ acc, H4 D = some (.lst acc) ∧ acc.length < sizeLine ∧ Nx (upd H4 D (.lst (acc ++ [y]))) else Nx H3)
def LcR1 (g : TG) (tt : TT) (te : TE) (ws : List Nat) (σ : St) (Q : VK) (vs : List V) (H : Hp) : Prop := ∃ j : Int, vs = [.int j] ∧ -(2 ^ 62) ≤ j ∧ j < 2 ^ 62 ∧ LcW (Itr 0 j.toNat) g tt te ws σ Q H
def LcR2 (g : TG) (tt : TT) (te : TE) (ws : List Nat) (σ : St) (Q : VK) (vs : List V) (H : Hp) : Prop := ∃ i j : Int, vs = [.int i, .int j] ∧ (-(2 ^ 62) ≤ i ∧ i < 2 ^ 62 ∧ -(2 ^ 62) ≤ j ∧ j < 2 ^ 62) ∧ LcW (Itr i (j - i).toNat) g tt te ws σ Q H
def LcL (K : PySem.W.Frag) (g : TG) (tt : TT) (te : TE) (ws : List Nat) (σ : St) (Q : VK) (x : V) (H : Hp) : Prop := ∃ a, x = .ref a ∧ (∃ xs, SqL K H a xs) ∧ LcW (Itl K a) g tt te ws σ Q H
def LcT (K : PySem.W.Frag) (g : TG) (tt : TT) (te : TE) (ws : List Nat) (σ : St) (Q : VK) (x : V) (H : Hp) : Prop := ∃ a, x = .ref a ∧ (∃ xs, SqT K H a xs) ∧ LcW (Itt K a) g tt te ws σ Q H
def LcS (g : TG) (tt : TT) (te : TE) (ws : List Nat) (σ : St) (Q : VK) (x : V) (H : Hp) : Prop := ∃ z, x = .str z ∧ LcW (Its z) g tt te ws σ Q H
variable {ws : List Nat}
theorem c_r1 (h : tr σ H fun vs H1 => LcR1 g t te ws σ Q vs H1) : tLc (iRng1 tr) g t te ws σ H Q := h
theorem c_r2 (h : tr σ H fun vs H1 => LcR2 g t te ws σ Q vs H1) : tLc (iRng2 tr) g t te ws σ H Q := h
theorem c_l (h : ta σ H fun x H1 => LcL K g t te ws σ Q x H1) : tLc (iList K ta) g t te ws σ H Q := h
theorem c_t (h : ta σ H fun x H1 => LcT K g t te ws σ Q x H1) : tLc (iTup K ta) g t te ws σ H Q := h
theorem c_s (h : ta σ H fun x H1 => LcS g t te ws σ Q x H1) : tLc (iStr ta) g t te ws σ H Q := h
theorem lcR1_mk {j : Int} (hj : -(2 ^ 62) ≤ j) (hj2 : j < 2 ^ 62) (Pv : Addr → Nat → Hp → Prop) (h0 : ∀ D, H D = none → Pv D 0 (upd H D (.lst [])))
    (hs : ∀ D (i : Nat) H', H D = none → i < j.toNat → Pv D i H' → g (.int (i : Int)) (wipe σ ws) H' fun σ2 H2 => wipe σ2 ws = wipe σ ws ∧ t σ2 H2 fun b H3 => if b = true then te σ2 H3 fun y H4 => ∃ acc, H4 D = some (.lst acc) ∧ acc.length < sizeLine ∧ Pv D (i + 1) (upd H4 D (.lst (acc ++ [y]))) else Pv D (i + 1) H3)
    (hd : ∀ D H', H D = none → Pv D j.toNat H' → Q (.ref D) H') : LcR1 g t te ws σ Q [.int j] H :=
  ⟨j, rfl, hj, hj2, fun D hD => lc_range (lo := 0) (n := j.toNat) (Pv D) (h0 D hD) (fun i H hi hp => by rw [Int.zero_add]; exact hs D i H hD hi hp) (fun H' hp => hd D H' hD hp)⟩
theorem lcR2_mk {lo j : Int} (hj : -(2 ^ 62) ≤ lo ∧ lo < 2 ^ 62 ∧ -(2 ^ 62) ≤ j ∧ j < 2 ^ 62) (Pv : Addr → Nat → Hp → Prop) (h0 : ∀ D, H D = none → Pv D 0 (upd H D (.lst [])))
    (hs : ∀ D (i : Nat) H', H D = none → i < (j - lo).toNat → Pv D i H' → g (.int (lo + (i : Int))) (wipe σ ws) H' fun σ2 H2 => wipe σ2 ws = wipe σ ws ∧ t σ2 H2 fun b H3 => if b = true then te σ2 H3 fun y H4 => ∃ acc, H4 D = some (.lst acc) ∧ acc.length < sizeLine ∧ Pv D (i + 1) (upd H4 D (.lst (acc ++ [y]))) else Pv D (i + 1) H3)
    (hd : ∀ D H', H D = none → Pv D (j - lo).toNat H' → Q (.ref D) H') : LcR2 g t te ws σ Q [.int lo, .int j] H :=
  ⟨lo, j, rfl, hj, fun D hD => lc_range (lo := lo) (n := (j - lo).toNat) (Pv D) (h0 D hD) (fun i H hi hp => hs D i H hD hi hp) (fun H' hp => hd D H' hD hp)⟩
theorem lcL_mk {a : Addr} {xs : List V} (hx : SqL K H a xs) (Pv : Addr → Nat → Hp → Prop) (h0 : ∀ D, H D = none → Pv D 0 (upd H D (.lst []))) (hl : ∀ D i H', H D = none → i ≤ xs.length → Pv D i H' → SqL K H' a xs)
    (hs : ∀ D i x H', H D = none → xs[i]? = some x → Pv D i H' → g x (wipe σ ws) H' fun σ2 H2 => wipe σ2 ws = wipe σ ws ∧ t σ2 H2 fun b H3 => if b = true then te σ2 H3 fun y H4 => ∃ acc, H4 D = some (.lst acc) ∧ acc.length < sizeLine ∧ Pv D (i + 1) (upd H4 D (.lst (acc ++ [y]))) else Pv D (i + 1) H3)
    (hd : ∀ D H', H D = none → Pv D xs.length H' → Q (.ref D) H') : LcL K g t te ws σ Q (.ref a) H :=
  ⟨a, rfl, ⟨xs, hx⟩, fun D hD => lc_list (xs := xs) (Pv D) (h0 D hD) (fun i H hi hp => hl D i H hD hi hp) (fun i x H hi hp => hs D i x H hD hi hp) (fun H' hp => hd D H' hD hp)⟩
theorem lcT_mk {a : Addr} {xs : List V} (hx : SqT K H a xs) (Pv : Addr → Nat → Hp → Prop) (h0 : ∀ D, H D = none → Pv D 0 (upd H D (.lst []))) (hl : ∀ D i H', H D = none → i ≤ xs.length → Pv D i H' → SqT K H' a xs)
    (hs : ∀ D i x H', H D = none → xs[i]? = some x → Pv D i H' → g x (wipe σ ws) H' fun σ2 H2 => wipe σ2 ws = wipe σ ws ∧ t σ2 H2 fun b H3 => if b = true then te σ2 H3 fun y H4 => ∃ acc, H4 D = some (.lst acc) ∧ acc.length < sizeLine ∧ Pv D (i + 1) (upd H4 D (.lst (acc ++ [y]))) else Pv D (i + 1) H3)
    (hd : ∀ D H', H D = none → Pv D xs.length H' → Q (.ref D) H') : LcT K g t te ws σ Q (.ref a) H :=
  ⟨a, rfl, ⟨xs, hx⟩, fun D hD => lc_tup (xs := xs) (Pv D) (h0 D hD) (fun i H hi hp => hl D i H hD hi hp) (fun i x H hi hp => hs D i x H hD hi hp) (fun H' hp => hd D H' hD hp)⟩
theorem s_cut (M : St → Hp → Prop) (h : p ⟨M, rt, b, k⟩ σ H) (hq : ∀ σ' H', M σ' H' → q ⟨n, rt, b, k⟩ σ' H') : Evl.tCut p q ⟨n, rt, b, k⟩ σ H := ⟨M, h, hq⟩
theorem s_p2 {P : V → V → Prop} (h : P x y) : ∃ v w, [x, y] = [v, w] ∧ P v w := ⟨x, y, rfl, h⟩
theorem s_p3 {P : V → V → V → Prop} (h : P x y z) : ∃ u v w, [x, y, z] = [u, v, w] ∧ P u v w := ⟨x, y, z, rfl, h⟩
theorem iteTd {p : Prop} [Decidable p] {A B : Prop} (h : p) (q : A) : if decide p = true then A else B := by
  rw [decide_eq_true h]
  exact iteT q
theorem iteFd {p : Prop} [Decidable p] {A B : Prop} (h : ¬ p) (q : B) : if decide p = true then A else B := by
  rw [decide_eq_false h]
  exact iteF q
theorem iteNt {A B : Prop} (q : B) : if (!true) = true then A else B := iteF q
theorem iteNf {A B : Prop} (q : A) : if (!false) = true then A else B := iteT q
theorem iteNd {p : Prop} [Decidable p] {A B : Prop} (h : p) (q : B) : if (!decide p) = true then A else B := by
  rw [decide_eq_true h]
  exact iteF q
theorem iteNdF {p : Prop} [Decidable p] {A B : Prop} (h : ¬ p) (q : A) : if (!decide p) = true then A else B := by
  rw [decide_eq_false h]
  exact iteT q
theorem ite2' {c : Bool} {A B : Prop} (h1 : c = true → A) (h2 : c = false → B) : if c = true then A else B := by
  cases c with
  | true => exact h1 rfl
  | false => exact h2 rfl
end
end My

set_option Elab.async false
set_option linter.all false
set_option maxRecDepth 100000
set_option maxHeartbeats 400000
/-! ### texts as lists of codes; heaps -/
namespace My
open PySem PySem.Spec PyProof.Rows L2
abbrev S (l : List Nat) : Str := SX.S l
theorem S_cps (l : List Nat) : (S l).cps.toList = l := rfl
theorem S_len (l : List Nat) : (S l).length = l.length := SX.S_len l
theorem S_eta (z : Str) : z = S z.cps.toList := by
  rcases z with ⟨⟨l⟩⟩
  rfl
theorem S_app (a b : List Nat) : S a ++ S b = S (a ++ b) := by
  show (⟨a.toArray ++ b.toArray⟩ : Str) = ⟨(a ++ b).toArray⟩
  simp
theorem S_inj {a b : List Nat} (h : S a = S b) : a = b := congrArg (fun z : Str => z.cps.toList) h
theorem S_eq (a b : List Nat) : decide (S a = S b) = decide (a = b) := by
  by_cases h : a = b
  · subst h; simp
  · have h2 : ¬ S a = S b := fun e => h (S_inj e)
    rw [decide_eq_false h, decide_eq_false h2]
theorem S_one (c : Nat) : (⟨#[c]⟩ : Str) = S [c] := rfl
/-! slices -/
theorem cut_from (l : List Nat) (a : Nat) : cutS (S l) (some (a : Int)) none = S (l.drop a) := by
  unfold cutS
  rw [S_len, HT.sIx_nat, HT.sIx_none, S_cps]
  apply congrArg S
  rcases Nat.le_total a l.length with h | h
  · rw [Nat.min_eq_left h]
    exact List.take_of_length_le (by rw [List.length_drop]; exact Nat.le_refl _)
  · rw [Nat.min_eq_right h, List.drop_eq_nil_of_le h]
    simp
theorem cut_to (l : List Nat) (b : Nat) : cutS (S l) none (some (b : Int)) = S (l.take b) := by
  unfold cutS
  rw [S_len, HT.sIx_nat, HT.sIx_none, S_cps]
  apply congrArg S
  rw [List.drop_zero, Nat.sub_zero]
  rcases Nat.le_total b l.length with h | h
  · rw [Nat.min_eq_left h]
  · rw [Nat.min_eq_right h, List.take_of_length_le (Nat.le_refl _), List.take_of_length_le h]
theorem cut_mid (l : List Nat) (a b : Nat) : cutS (S l) (some (a : Int)) (some (b : Int)) = S ((l.take b).drop a) := by
  unfold cutS
  rw [S_len, HT.sIx_nat, HT.sIx_nat, S_cps]
  apply congrArg S
  rw [List.drop_take]
  rcases Nat.le_total a l.length with h | h
  · rw [Nat.min_eq_left h]
    rcases Nat.le_total b l.length with h2 | h2
    · rw [Nat.min_eq_left h2]
    · rw [Nat.min_eq_right h2, List.take_of_length_le (by rw [List.length_drop]; exact Nat.le_refl _), List.take_of_length_le (by rw [List.length_drop]; omega)]
  · rw [Nat.min_eq_right h, List.drop_eq_nil_of_le h]
    simp
theorem cut_fromI (l : List Nat) {a : Int} (h : 0 ≤ a) : cutS (S l) (some a) none = S (l.drop a.toNat) := by
  have e := cut_from l a.toNat
  rwa [Int.toNat_of_nonneg h] at e
theorem cut_toI (l : List Nat) {a : Int} (h : 0 ≤ a) : cutS (S l) none (some a) = S (l.take a.toNat) := by
  have e := cut_to l a.toNat
  rwa [Int.toNat_of_nonneg h] at e
theorem cut_midI (l : List Nat) {a b : Int} (h : 0 ≤ a) (h2 : 0 ≤ b) : cutS (S l) (some a) (some b) = S ((l.take b.toNat).drop a.toNat) := by
  have e := cut_mid l a.toNat b.toNat
  rwa [Int.toNat_of_nonneg h, Int.toNat_of_nonneg h2] at e
theorem repS_S (l : List Nat) (k : Int) : repS (S l) k = S (List.replicate k.toNat l).flatten := rfl
theorem join_S (ys : List (List Nat)) : Txt.join (S []) (ys.map S) = S ys.flatten := by
  rw [SX.join_S]
  apply congrArg S
  induction ys with
  | nil => rfl
  | cons y ys ih =>
    cases ys with
    | nil => simp [TL.joinL]
    | cons z zs =>
      have e : TL.joinL [] (y :: z :: zs) = y ++ ([] ++ TL.joinL [] (z :: zs)) := by first | rfl | simp [TL.joinL]
      rw [e, ih]
      rfl
/-! an item at a place -/
theorem at_nat {α : Type} {xs : List α} {i : Int} {v : α} (h0 : 0 ≤ i) (h : xs[i.toNat]? = some v) : atI xs i = some v := by
  have e := atI_nat h
  rwa [Int.toNat_of_nonneg h0] at e
theorem at_in {α : Type} {xs : List α} {i : Int} (h0 : 0 ≤ i) (h : i < (xs.length : Int)) : atI xs i = some (xs[i.toNat]'(by omega)) := at_nat h0 (List.getElem?_eq_getElem (by omega))
/-! leaves over S -/
section
variable {K : PySem.W.Frag} {H : Hp} {Q : VK} {l m : List Nat} {a b : Int}
theorem big_line {n : Nat} (h : n ≤ 1000000) : n ≤ sizeLine := Nat.le_trans h (by decide)
theorem sl_to (ha : 0 ≤ a) (hl : l.length ≤ 1000000) (q : Q (.str (S (l.take a.toNat))) H) : rSL K (.str (S l)) none (some a) H Q := sl_S (by rw [S_len]; exact big_line hl) (by rw [cut_toI l ha]; exact q)
theorem sl_from (ha : 0 ≤ a) (hl : l.length ≤ 1000000) (q : Q (.str (S (l.drop a.toNat))) H) : rSL K (.str (S l)) (some a) none H Q := sl_S (by rw [S_len]; exact big_line hl) (by rw [cut_fromI l ha]; exact q)
theorem sl_mid (ha : 0 ≤ a) (hb : 0 ≤ b) (hl : l.length ≤ 1000000) (q : Q (.str (S ((l.take b.toNat).drop a.toNat))) H) : rSL K (.str (S l)) (some a) (some b) H Q := sl_S (by rw [S_len]; exact big_line hl) (by rw [cut_midI l ha hb]; exact q)
theorem a_SS (hl : l.length + m.length ≤ 1000000) (q : Q (.str (S (l ++ m))) H) : rADD K (.str (S l)) (.str (S m)) H Q := a_ss (by rw [S_len, S_len]; exact big_line hl) (by rw [S_app]; exact q)
theorem ln_S (hl : l.length ≤ 1000000) (q : Q (.int l.length) H) : rLEN K [.str (S l)] H Q := ln_s (by rw [S_len]; exact big_line hl) (by rw [S_len]; exact q)
theorem ix_SS (h0 : 0 ≤ a) (h1 : a < (l.length : Int)) (hl : l.length ≤ 1000000) (q : ∀ c, l[a.toNat]? = some c → Q (.str (S [c])) H) : rIX K (.str (S l)) (.int a) H Q :=
  ix_S (by rw [S_len]; exact big_line hl) (at_in h0 h1) (q _ (List.getElem?_eq_getElem (by omega)))
theorem e_SS (q : Q (.bl (decide (l = m))) H) : rEQ K (.str (S l)) (.str (S m)) H Q := e_ss (by rw [S_eq]; exact q)
theorem ne_SS (q : Q (.bl (!decide (l = m))) H) : rNE K (.str (S l)) (.str (S m)) H Q := ne_ss (by rw [S_eq]; exact q)
theorem m_SI (h1 : a < 2 ^ 40) (h0 : 0 ≤ a) (hl : l.length * a.toNat ≤ 1000000) (q : Q (.str (S (List.replicate a.toNat l).flatten)) H) : rMUL K (.str (S l)) (.int a) H Q := m_si (by omega) (by omega) (by rw [S_len]; exact big_line hl) q
theorem jn_0 {p : Addr} {ys : List (List Nat)} (hp : SqL K H p ((ys.map S).map V.str)) (hl : ys.flatten.length ≤ 1000000) (q : Q (.str (S ys.flatten)) H) : rJoin K (.str (S [])) [.ref p] H Q := by
  refine ⟨S [], p, ys.map S, rfl, rfl, .inl hp, ?_, by rw [join_S]; exact q⟩
  have e : ((ys.map S).map (·.length)).sum = ys.flatten.length := by
    rw [List.length_flatten, List.map_map]
    apply congrArg List.sum
    exact List.map_congr_left fun l _ => S_len l
  rw [e, S_len]
  exact Nat.le_trans (by simpa using hl) (by decide)
end
/-! printing ASCII -/
def isT (l : List Nat) : Bool := l.all fun c => decide (32 ≤ c) && decide (c ≤ 126)
theorem printable_lt {c : Nat} (h : c < 128) : Unicode.isPrintable c = (decide (32 ≤ c) && decide (c ≤ 126)) := by
  have h2 : ∀ c : _root_.Fin 128, Unicode.isPrintable c.val = (decide (32 ≤ c.val) && decide (c.val ≤ 126)) := by decide +kernel
  exact h2 ⟨c, h⟩
theorem digit_lt {c : Nat} (h : c < 128) : Unicode.isDigit c = (decide (48 ≤ c) && decide (c ≤ 57)) := by
  have h2 : ∀ c : _root_.Fin 128, Unicode.isDigit c.val = (decide (48 ≤ c.val) && decide (c.val ≤ 57)) := by decide +kernel
  exact h2 ⟨c, h⟩
theorem is_text_eq (l : List Nat) : (Txt.isascii (S l) && Txt.isprintable (S l)) = isT l := by
  unfold Txt.isascii Txt.isprintable isT
  rw [← Array.all_toList, ← Array.all_toList, S_cps]
  induction l with
  | nil => rfl
  | cons c l ih =>
    simp only [List.all_cons]
    rw [← ih]
    by_cases h : c < 128
    · rw [printable_lt h, decide_eq_true h]
      cases (decide (32 ≤ c) && decide (c ≤ 126)) <;> cases (l.all fun x => decide (x < 128)) <;> cases (l.all Unicode.isPrintable) <;> rfl
    · rw [decide_eq_false h]
      have h2 : (decide (32 ≤ c) && decide (c ≤ 126)) = false := by
        rw [decide_eq_false (show ¬ c ≤ 126 by omega), Bool.and_false]
      rw [h2]
      rfl
def isD (l : List Nat) : Bool := l.all fun c => decide (48 ≤ c) && decide (c ≤ 57)
theorem isT_mem {l : List Nat} (h : isT l = true) {c : Nat} (hc : c ∈ l) : 32 ≤ c ∧ c ≤ 126 := by
  have z := List.all_eq_true.mp h c hc
  rw [Bool.and_eq_true, decide_eq_true_eq, decide_eq_true_eq] at z
  exact z
theorem isT_of {l : List Nat} (h : ∀ c ∈ l, 32 ≤ c ∧ c ≤ 126) : isT l = true := List.all_eq_true.mpr fun c hc => by
  rw [Bool.and_eq_true, decide_eq_true_eq, decide_eq_true_eq]
  exact h c hc
theorem isT_app {a b : List Nat} : isT (a ++ b) = (isT a && isT b) := List.all_append
theorem isT_take {a : List Nat} (n : Nat) (h : isT a = true) : isT (a.take n) = true := isT_of fun _ hc => isT_mem h (List.mem_of_mem_take hc)
theorem isT_drop {a : List Nat} (n : Nat) (h : isT a = true) : isT (a.drop n) = true := isT_of fun _ hc => isT_mem h (List.mem_of_mem_drop hc)
theorem isdigit_eq {l : List Nat} (h : isT l = true) : Txt.isdigit (S l) = (decide (l ≠ []) && isD l) := by
  unfold Txt.isdigit isD
  rw [← Array.all_toList, S_cps, S_len]
  have e : l.all Unicode.isDigit = l.all fun c => decide (48 ≤ c) && decide (c ≤ 57) := by
    rw [Bool.eq_iff_iff, List.all_eq_true, List.all_eq_true]
    constructor
    · intro z c hc
      rw [← digit_lt (by have := isT_mem h hc; omega)]
      exact z c hc
    · intro z c hc
      rw [digit_lt (by have := isT_mem h hc; omega)]
      exact z c hc
  rw [e]
  cases l with
  | nil => rfl
  | cons c l => simp
/-! lists of texts, of numbers -/
def TxtAll (n : Nat) (xs : List V) : Prop := ∀ x ∈ xs, ∃ l : List Nat, l.length ≤ n ∧ isT l = true ∧ x = V.str (S l)
theorem txt_nil {n : Nat} : TxtAll n [] := fun _ h => by cases h
theorem txt_cons {n : Nat} {l : List Nat} {xs : List V} (h1 : l.length ≤ n) (h2 : isT l = true) (h : TxtAll n xs) : TxtAll n (.str (S l) :: xs) := fun x hx => by
  rcases List.mem_cons.mp hx with rfl | hx
  · exact ⟨l, h1, h2, rfl⟩
  · exact h x hx
theorem txt_app {n : Nat} {xs ys : List V} (h1 : TxtAll n xs) (h2 : TxtAll n ys) : TxtAll n (xs ++ ys) := fun x hx => (List.mem_append.mp hx).elim (h1 x) (h2 x)
theorem ix_txt {K : PySem.W.Frag} {H : Hp} {Q : VK} {p : Addr} {zs : List V} {n : Nat} {i : Int} (hp : SqL K H p zs) (ha : TxtAll n zs) (h0 : 0 ≤ i) (h1 : i < (zs.length : Int)) (q : ∀ l : List Nat, l.length ≤ n → isT l = true → Q (.str (S l)) H) : rIX K (.ref p) (.int i) H Q := by
  refine ix_L hp (at_in h0 h1) ?_
  have hi : i.toNat < zs.length := by omega
  obtain ⟨l, a, b, e⟩ := ha zs[i.toNat] (List.getElem_mem hi)
  rw [e]
  exact q l a b
def IntAll (n : Nat) (xs : List V) : Prop := ∀ x ∈ xs, ∃ z : Nat, z < n ∧ x = V.int z
theorem int_nil {n : Nat} : IntAll n [] := fun _ h => by cases h
theorem int_cons {n : Nat} {i : Int} {xs : List V} (h0 : 0 ≤ i) (h1 : i < (n : Int)) (h : IntAll n xs) : IntAll n (.int i :: xs) := fun x hx => by
  rcases List.mem_cons.mp hx with rfl | hx
  · exact ⟨i.toNat, by omega, by rw [Int.toNat_of_nonneg h0]⟩
  · exact h x hx
theorem ix_int {K : PySem.W.Frag} {H : Hp} {Q : VK} {p : Addr} {zs : List V} {n : Nat} {i : Int} (hp : SqL K H p zs) (ha : IntAll n zs) (h0 : 0 ≤ i) (h1 : i < (zs.length : Int)) (q : ∀ z : Nat, z < n → Q (.int z) H) : rIX K (.ref p) (.int i) H Q := by
  refine ix_L hp (at_in h0 h1) ?_
  have hi : i.toNat < zs.length := by omega
  obtain ⟨z, a, e⟩ := ha zs[i.toNat] (List.getElem_mem hi)
  rw [e]
  exact q z a
def IntP (F : Nat → Prop) (xs : List V) : Prop := ∀ x ∈ xs, ∃ z : Nat, F z ∧ x = V.int z
theorem intp_nil {F : Nat → Prop} : IntP F [] := fun _ h => by cases h
theorem intp_cons {F : Nat → Prop} {i : Int} {xs : List V} (h0 : 0 ≤ i) (h1 : F i.toNat) (h : IntP F xs) : IntP F (.int i :: xs) := fun x hx => by
  rcases List.mem_cons.mp hx with rfl | hx
  · exact ⟨i.toNat, h1, by rw [Int.toNat_of_nonneg h0]⟩
  · exact h x hx
theorem ix_intp {K : PySem.W.Frag} {H : Hp} {Q : VK} {p : Addr} {zs : List V} {F : Nat → Prop} {i : Int} (hp : SqL K H p zs) (ha : IntP F zs) (h0 : 0 ≤ i) (h1 : i < (zs.length : Int)) (q : ∀ z : Nat, F z → Q (.int z) H) : rIX K (.ref p) (.int i) H Q := by
  refine ix_L hp (at_in h0 h1) ?_
  have hi : i.toNat < zs.length := by omega
  obtain ⟨z, a, e⟩ := ha zs[i.toNat] (List.getElem_mem hi)
  rw [e]
  exact q z a
/-! heaps -/
theorem same_upd {H : Hp} {p : Addr} {o : HO} (h : H p = none) : Same H (upd H p o) := fun b x e => by
  rw [upd_ne (ne_of_none e h)]
  exact e
theorem same_mut {R H : Hp} {p : Addr} {o : HO} (e : Same R H) (h : R p = none) : Same R (upd H p o) := fun a u ha => by
  rw [upd_ne (ne_of_none ha h)]
  exact e a u ha
theorem same_sqt {K : PySem.W.Frag} {H H' : Hp} {a : Addr} {xs : List V} (e : Same H H') (h : SqT K H a xs) : SqT K H' a xs := by
  rcases h with (h | ⟨o, h⟩) | h
  · exact .inl (.inl (e _ _ h))
  · exact .inl (.inr ⟨o, e _ _ h⟩)
  · exact .inr h
theorem same_new {R H : Hp} {p : Addr} {o : HO} (e : Same R H) (h : H p = none) : Same R (upd H p o) := e.trans (same_upd h)
theorem lst_of {K : PySem.W.Frag} {H : Hp} {a : Addr} {xs : List V} (h : H a = some (.lst xs)) : SqL K H a xs := .inl (.inl h)
theorem tup_of {K : PySem.W.Frag} {H : Hp} {a : Addr} {xs : List V} (h : H a = some (.tup xs)) : SqT K H a xs := .inl (.inl h)
mutual
theorem dp_mono {K : PySem.W.Frag} {H H' : Hp} (e : Same H H') : ∀ (d : PyData) (v : V), Dp K H v d → Dp K H' v d
  | _, _, .non => .non
  | _, _, .bl b => .bl b
  | _, _, .int i => .int i
  | _, _, .str x => .str x
  | .list ds, _, .lst h a => .lst (e.seq h) (dpAll_mono e ds _ a)
  | .tuple ds, _, .tup h a => .tup (same_sqt e h) (dpAll_mono e ds _ a)
theorem dpAll_mono {K : PySem.W.Frag} {H H' : Hp} (e : Same H H') : ∀ (ds : List PyData) (vs : List V), DpAll K H vs ds → DpAll K H' vs ds
  | _, _, .nil => .nil
  | d :: ds, v :: vs, .cons h t => .cons (dp_mono e d v h) (dpAll_mono e ds vs t)
end
theorem ne_new {H : Hp} {a p : Addr} {o : HO} (h : H a = some o) (hp : H p = none) : p ≠ a := fun e => by
  subst e
  rw [hp] at h
  cases h
end My

set_option Elab.async false
set_option linter.all false
set_option maxRecDepth 100000
set_option maxHeartbeats 400000
/-! ### data; isinstance; a comprehension over a range with a step -/
namespace My
open PySem PySem.Spec PyProof.Rows L2
def tyName : PyData → String
  | .none => "NoneType"
  | .bool _ => "bool"
  | .int _ => "int"
  | .str _ => "str"
  | .list _ => "list"
  | .tuple _ => "tuple"
  | .dict _ => "dict"
theorem tyx_l {K : PySem.W.Frag} {H : Hp} {a : Addr} {xs : List V} (h : SqL K H a xs) : TyX K H (.ref a) (.type "list") := by
  rcases h with (h | ⟨o, h⟩) | h
  · exact .base (.lst h)
  · exact .base (.frz h)
  · obtain ⟨o, its, n, h1, h2, _⟩ := h
    exact .kList h1 h2
theorem tyx_t {K : PySem.W.Frag} {H : Hp} {a : Addr} {xs : List V} (h : SqT K H a xs) : TyX K H (.ref a) (.type "tuple") := by
  rcases h with (h | ⟨o, h⟩) | h
  · exact .base (.tup h)
  · exact .fTuple h
  · obtain ⟨o, its, n, h1, h2, _⟩ := h
    exact .kTuple h1 h2
theorem tyx_d {K : PySem.W.Frag} {H : Hp} {x : V} {d : PyData} (h : Dp K H x d) : TyX K H x (.type (tyName d)) := by
  cases h with
  | non => exact .base .non
  | bl b => exact .base (.bl b)
  | int i => exact .base (.int i)
  | str z => exact .base (.str z)
  | lst h _ => exact tyx_l h
  | tup h _ => exact tyx_t h
section
variable {K : PySem.W.Frag} {H : Hp} {Q : VK} {x : V} {d : PyData}
theorem isi_d {n : String} {b : Bool} (h : Dp K H x d) (hb : kitB (tyName d) n = some b) (q : Q (.bl b) H) : rISI K [x, .ty n] H Q :=
  .inl ⟨x, .ty n, _, _, b, rfl, .ty n, tyx_d h, kit_ty hb, q⟩
theorem isi_d2 {n m : String} {p : Addr} {b : Bool} (h : Dp K H x d) (hp : H p = some (.tup [.ty n, .ty m])) {b1 b2 : Bool} (h1 : kitB (tyName d) n = some b1) (h2 : kitB (tyName d) m = some b2) (hb : b = (b1 || b2)) (q : Q (.bl b) H) : rISI K [x, .ref p] H Q := by
  refine .inr ⟨x, p, _, _, [.type n, .type m], b, rfl, hp, .cons (.ty n) (.cons (.ty m) .nil), tyx_d h, ?_, q⟩
  subst hb
  refine kitAny_cons (kit_ty h1) (fun e => ?_) (fun e => by rw [e]; rfl)
  rw [e, Bool.false_or]
  exact kitAny_cons (kit_ty h2) (fun e => by rw [e]; exact kitAny_nil) (fun e => e)
/-- the six answers of isinstance and is None -/
def kindsB (d : PyData) : List Bool := match d with
  | .none => [false, false, false, false, false, true]
  | .bool _ => [true, true, false, false, false, false]
  | .int _ => [false, true, false, false, false, false]
  | .str _ => [false, false, true, false, false, false]
  | .list _ => [false, false, false, false, true, false]
  | .tuple _ => [false, false, false, true, false, false]
  | .dict _ => []
/-- a list of booleans as data -/
theorem dp_bools {p : Addr} (bs : List Bool) (h : SqL K H p (bs.map V.bl)) : Dp K H (.ref p) (.list (bs.map PyData.bool)) := by
  refine .lst h ?_
  induction bs with
  | nil => exact .nil
  | cons b bs ih =>
    have ih' : DpAll K H (bs.map V.bl) (bs.map PyData.bool) := by
      clear ih h
      induction bs with
      | nil => exact .nil
      | cons c cs ih => exact .cons (.bl c) ih
    exact .cons (.bl b) ih'
theorem eqv_same {d : PyData} (h : SeqAt.shaped d = true) : PyData.eqv d d = true := by
  unfold SeqAt.shaped at h
  rw [Bool.and_eq_true] at h
  exact SeqAt.eqv_refl d h.1
theorem dpAll_get : ∀ {vs : List V} {ds : List PyData}, DpAll K H vs ds → ∀ {i : Nat} (hi : i < ds.length), ∃ v, vs[i]? = some v ∧ Dp K H v ds[i]
  | _, _, .nil, i, hi => absurd hi (Nat.not_lt_zero _)
  | _, _, .cons a b, 0, hi => ⟨_, rfl, a⟩
  | _, _, .cons a b, i + 1, hi => dpAll_get b (Nat.lt_of_succ_lt_succ hi)
theorem dpAll_len : ∀ {vs : List V} {ds : List PyData}, DpAll K H vs ds → vs.length = ds.length
  | _, _, .nil => rfl
  | _, _, .cons a b => by rw [List.length_cons, List.length_cons, dpAll_len b]
end
/-- a comprehension over range(a, b, c) -/
theorem lc_rangeC {lo c : Int} {n : Nat} {g : TG} {tt : TT} {te : TE} {vs : List Nat} {σ : L2.St} {H1 : Hp} {D : Addr} {Qd : Hp → Prop} (Pv : Nat → Hp → Prop) (h0 : Pv 0 (upd H1 D (.lst [])))
    (hs : ∀ i H, i < n → Pv i H → g (.int (lo + (i : Nat) * c)) (wipe σ vs) H fun σ2 H2 => wipe σ2 vs = wipe σ vs ∧ tt σ2 H2 fun b H3 =>
      if b = true then te σ2 H3 fun y H4 => ∃ acc, H4 D = some (.lst acc) ∧ acc.length < sizeLine ∧ Pv (i + 1) (upd H4 D (.lst (acc ++ [y]))) else Pv (i + 1) H3) (hd : ∀ H, Pv n H → Qd H) :
    ∃ W : Nat → Nat → Hp → Prop, (∃ m, W 0 m (upd H1 D (.lst []))) ∧ ∀ i m H, W i m H →
      ((Itc lo c n).stop i H ∧ Qd H) ∨ ((Itc lo c n).go i H ∧ ∃ Nx : Hp → Prop, (∀ H', Nx H' → ∃ m', m' < m ∧ W (i + 1) m' H') ∧ ∀ x H', (Itc lo c n).yld i H x H' → g x (wipe σ vs) H' fun σ2 H2 => wipe σ2 vs = wipe σ vs ∧ tt σ2 H2 fun b H3 =>
        if b = true then te σ2 H3 fun y H4 => ∃ acc, H4 D = some (.lst acc) ∧ acc.length < sizeLine ∧ Nx (upd H4 D (.lst (acc ++ [y]))) else Nx H3) := by
  refine ⟨fun i m H => m = n - i ∧ i ≤ n ∧ Pv i H, ⟨n, by simp, Nat.zero_le _, h0⟩, ?_⟩
  rintro i m H ⟨rfl, hi, p⟩
  by_cases hlt : i < n
  · refine .inr ⟨hlt, Pv (i + 1), fun H' p' => ⟨n - (i + 1), by omega, rfl, hlt, p'⟩, fun x H' y => ?_⟩
    obtain ⟨rfl, rfl⟩ := y
    exact hs i _ hlt p
  · have e : i = n := by omega
    subst e
    exact .inl ⟨Nat.le_refl _, hd H p⟩
theorem rsize_pos {m f : Nat} (h1 : 1 ≤ m) (hf : 1 ≤ f) : Builtin.Range.rangeSize 0 (m : Int) (f : Int) = (((m - 1) / f + 1 : Nat) : Int) := by
  unfold Builtin.Range.rangeSize
  rw [if_pos (by omega), if_pos (by omega), Int.sub_zero, show (m : Int) - 1 = ((m - 1 : Nat) : Int) by omega]
  rfl
theorem small_pos {m f : Nat} (h1 : 1 ≤ m) (h2 : m ≤ 1000000) (hf : 1 ≤ f) (hf2 : f ≤ 1000000) : Builtin.Range.small 0 (m : Int) (f : Int) = true := by
  unfold Builtin.Range.small
  rw [rsize_pos h1 hf]
  simp only [Builtin.Range.rangeFitsLong, Bool.and_eq_true, Bool.or_eq_true, decide_eq_true_eq, beq_iff_eq, show ((f : Int) > 0) by omega, if_true]
  have h3 := Nat.div_le_self (m - 1) f
  generalize (m - 1) / f = q at *
  omega
/-! one sign in figures -/
theorem lit_figs : ("0123456789" : Str) = S [48, 49, 50, 51, 52, 53, 54, 55, 56, 57] := rfl
theorem find_fig (c : Nat) : Txt.find (S [48, 49, 50, 51, 52, 53, 54, 55, 56, 57]) (S [c]) = if 48 ≤ c ∧ c ≤ 57 then ((c - 48 : Nat) : Int) else -1 := by
  by_cases h : 48 ≤ c ∧ c ≤ 57
  · rw [if_pos h]
    have h2 : ∀ k : _root_.Fin 10, Txt.find (S [48, 49, 50, 51, 52, 53, 54, 55, 56, 57]) (S [48 + k.val]) = (k.val : Int) := by decide +kernel
    have e := h2 ⟨c - 48, by omega⟩
    rw [show 48 + (c - 48) = c by omega] at e
    exact e
  · rw [if_neg h]
    have e := SX.in_one [48, 49, 50, 51, 52, 53, 54, 55, 56, 57] c
    have h3 : decide (c ∈ [48, 49, 50, 51, 52, 53, 54, 55, 56, 57]) = false := decide_eq_false fun hm => h (by
      simp only [List.mem_cons, List.not_mem_nil, or_false] at hm
      omega)
    rw [h3, Bool.not_eq_false'] at e
    unfold Txt.find
    rw [List.isEmpty_iff] at e
    show (match Builtin.Str.occurrences (SX.S _) (SX.S [c]) 0 (SX.S _).length 1 with | i :: _ => (i : Int) | [] => -1) = -1
    rw [e]
/-! figures of a number -/
def figs : Nat → Nat → List Nat
  | 0, _ => []
  | w + 1, n => figs w (n / 10) ++ [48 + n % 10]
theorem figs_len : ∀ w n, (figs w n).length = w
  | 0, _ => rfl
  | w + 1, n => by rw [figs, List.length_append, figs_len w]; rfl
theorem digitChar_nat {n : Nat} (h : n < 10) : n.digitChar.toNat = 48 + n := by
  have h2 : ∀ k : _root_.Fin 10, k.val.digitChar.toNat = 48 + k.val := by decide
  exact h2 ⟨n, h⟩
theorem toDigits_len10 {w n : Nat} (h : n < 10 ^ w) (hw : 0 < w) : (Nat.toDigits 10 n).length ≤ w := by
  have h1 := (Nat.length_repr_le_iff (n := n) (k := w) hw).mpr h
  rwa [← String.length_toList, Nat.toList_repr] at h1
def pad (w n : Nat) : List Nat := List.replicate (w - (Nat.toDigits 10 n).length) 48 ++ (Nat.toDigits 10 n).map Char.toNat
theorem zpad_S (w n : Nat) : zpad w (n : Int) = S (pad w n) := rfl
theorem figs_zero : ∀ w, figs w 0 = List.replicate w 48
  | 0 => rfl
  | w + 1 => by
    rw [figs, Nat.zero_div, Nat.zero_mod, figs_zero w, List.replicate_succ']
theorem pad_figs : ∀ (w n : Nat), n < 10 ^ w → 0 < w → pad w n = figs w n
  | 0, _, _, h => absurd h (Nat.lt_irrefl _)
  | w + 1, n, h, _ => by
    by_cases hn : n < 10
    · unfold pad
      rw [Nat.toDigits_of_lt_base hn]
      show List.replicate (w + 1 - 1) 48 ++ [n.digitChar.toNat] = figs (w + 1) n
      rw [figs, digitChar_nat hn, Nat.div_eq_of_lt hn, Nat.mod_eq_of_lt hn, figs_zero]
      rfl
    · have hw : 0 < w := by
        rcases Nat.eq_zero_or_pos w with e | e
        · subst e
          simp at h
          omega
        · exact e
      have h2 : n / 10 < 10 ^ w := by
        rw [Nat.div_lt_iff_lt_mul (by decide)]
        rwa [Nat.pow_succ] at h
      have ih := pad_figs w (n / 10) h2 hw
      have hl := toDigits_len10 h2 hw
      rw [figs, ← ih]
      unfold pad
      rw [Nat.toDigits_of_base_le (by decide) (by omega), List.length_append, List.map_append, ← List.append_assoc]
      show List.replicate (w + 1 - ((Nat.toDigits 10 (n / 10)).length + 1)) 48 ++ _ ++ [(n % 10).digitChar.toNat] = _
      rw [digitChar_nat (Nat.mod_lt _ (by decide)), show w + 1 - ((Nat.toDigits 10 (n / 10)).length + 1) = w - (Nat.toDigits 10 (n / 10)).length by omega]
theorem figs_isD : ∀ w n, isD (figs w n) = true
  | 0, _ => rfl
  | w + 1, n => by
    show List.all (figs (w + 1) n) _ = true
    rw [figs, List.all_append]
    have e : (figs w (n / 10)).all (fun c => decide (48 ≤ c) && decide (c ≤ 57)) = true := figs_isD w (n / 10)
    rw [e, Bool.true_and]
    have := Nat.mod_lt n (show 10 > 0 by decide)
    simp
    omega
theorem digitsVal_snoc (a : List Nat) (c : Nat) : NumText.digitsVal (a ++ [c]) = NumText.digitsVal a * 10 + (c - 48) := by
  unfold NumText.digitsVal
  rw [List.foldl_append]
  rfl
theorem digitsVal_figs : ∀ w n, n < 10 ^ w → NumText.digitsVal (figs w n) = n
  | 0, n, h => by
    have : n = 0 := by simpa using h
    subst this
    rfl
  | w + 1, n, h => by
    rw [figs, digitsVal_snoc, digitsVal_figs w (n / 10) (by rw [Nat.div_lt_iff_lt_mul (by decide)]; rwa [Nat.pow_succ] at h)]
    omega
theorem isD_isT {l : List Nat} (h : isD l = true) : isT l = true := isT_of fun c hc => by
  have z := List.all_eq_true.mp h c hc
  rw [Bool.and_eq_true, decide_eq_true_eq, decide_eq_true_eq] at z
  omega
end My

set_option Elab.async false
set_option linter.all false
set_option maxRecDepth 100000
set_option maxHeartbeats 400000
/-! ### the greatest, with one for none; noughts ahead -/
namespace My
open PySem PySem.Spec PyProof.Rows L2
theorem maxOf_int (x : Int) : ∀ xs : List Int, PySem.W.maxOf x xs ∈ x :: xs ∧ ∀ y ∈ x :: xs, y ≤ PySem.W.maxOf x xs := by
  intro xs
  unfold PySem.W.maxOf
  induction xs generalizing x with
  | nil => exact ⟨List.mem_singleton.mpr rfl, fun y hy => by rw [List.mem_singleton.mp hy]; exact Int.le_refl _⟩
  | cons z zs ih =>
    rw [List.foldl_cons]
    have e : PySem.W.DatumOrd.lt x z = decide (x < z) := rfl
    rw [e]
    by_cases h : x < z
    · rw [if_pos (decide_eq_true h)]
      obtain ⟨h1, h2⟩ := ih z
      refine ⟨List.mem_cons_of_mem _ h1, fun y hy => ?_⟩
      rcases List.mem_cons.mp hy with rfl | hy
      · exact Int.le_trans (Int.le_of_lt h) (h2 z (List.mem_cons_self ..))
      · exact h2 y hy
    · rw [if_neg (by rw [decide_eq_false h]; decide)]
      obtain ⟨h1, h2⟩ := ih x
      refine ⟨?_, fun y hy => ?_⟩
      · rcases List.mem_cons.mp h1 with h1 | h1
        · rw [h1]; exact List.mem_cons_self ..
        · exact List.mem_cons_of_mem _ (List.mem_cons_of_mem _ h1)
      · rcases List.mem_cons.mp hy with rfl | hy
        · exact h2 _ (List.mem_cons_self ..)
        · rcases List.mem_cons.mp hy with rfl | hy
          · exact Int.le_trans (by omega) (h2 x (List.mem_cons_self ..))
          · exact h2 y (List.mem_cons_of_mem _ hy)
section
variable {X : Cx}
def rMAXD (K : PySem.W.Frag) : List V → List V → Hp → VK → Prop := fun xs zs H Q => ∃ (a : Addr) (ns : List Int) (d : V), xs = [.ref a] ∧ zs = [d] ∧ SqL K H a (ns.map V.int) ∧ (ns = [] → Q d H) ∧ ∀ m, m ∈ ns → (∀ y, y ∈ ns → y ≤ m) → Q (.int m) H
theorem call_MAXD (hc : X.calm = true) (hu : X.A.units + 64 < cLine) : CallRK X (.builtin "max") ["default"] (rMAXD X.K) := by
  intro pins s σ H xs zs us ws Q I rx rz h
  obtain ⟨a, ns, d, rfl, rfl, hs, q0, q⟩ := h
  obtain ⟨its, rv, hl, _⟩ := I.list hs
  rw [Vals.ref1 rx]
  cases rz with
  | cons r1 r2 =>
    cases r2
    rename_i w
    have hi : IntsAre its ns := rv.ints
    refine PySem.W.max_list_datum_default (xs := ns) (I.ok.hd hc) hl.isList ?_ ?_ (fun e h' tk hk => ⟨d, H, I.kept hk, r1, q0 e⟩) fun y ys i v h' tk e hv hh hk => ?_
    · rw [List.toList_toArray]
      exact PySem.W.HoldAll.of_ints hi
    · show X.A.units + 1 + 0 < cLine
      omega
    · subst e
      obtain ⟨m1, m2⟩ := maxOf_int y ys
      obtain ⟨as, hr⟩ := hh
      have hr' : Reads h' v (.int (PySem.W.maxOf y ys)) as := hr
      cases hr' with
      | int _ t => exact ⟨.int _, H, I.kept hk, ⟨t, rfl⟩, q _ m1 m2⟩
end
end My
namespace PySem
open Builtin Builtin.Str Builtin.Int
theorem my_gives_rjust3 (x : Str) (i : Int) (c : Nat) (t u v : Tok) (hr : (decide (i < -(2 ^ 63 : Int)) || decide (i ≥ 2 ^ 63)) = false) (hl : tooLong i.toNat = false) :
    Gives («str.rjust» ⟨[.str x t, .int i u, .str ⟨#[c]⟩ v], []⟩) (if i ≤ x.length then .val (.str x t) else .str (padded x (i.toNat - x.length) 0 c)) := by
  show Gives (do
             let width ← asSsize s!"str.{"rjust"}" (.int i u)
             if width ≤ x.length then (do rule s!"str.{"rjust"}.long-enough"; ret (.str x t)) else
             if tooLong width.toNat = true then unsupported s!"str.{"rjust"}:memory" else retStr (padded x (width.toNat - x.length) 0 c)) _
  rw [asSsize_int _ _ _ hr]
  show Gives (if i ≤ x.length then (do rule s!"str.{"rjust"}.long-enough"; ret (.str x t)) else if tooLong i.toNat = true then unsupported s!"str.{"rjust"}:memory" else retStr (padded x (i.toNat - x.length) 0 c)) _
  rw [hl]
  by_cases h : i ≤ (x.length : Int)
  · rw [if_pos h, if_pos h]; exact .rule (.of_eq rfl)
  · rw [if_neg h, if_neg h]; exact .of_eq rfl
def myRjust (x : Str) (i : Int) (c : Nat) : Str := if i ≤ x.length then x else padded x (i.toNat - x.length) 0 c
theorem my_rjust3 {prog : Program} {w : World} {A : Around} {E : Value → Shared → Prop} {s : Shared} {Q : Value → Shared → Prop} {x : Str} {t : Tok} {i : Int} {c : Nat} {u v : Tok} (hp : PadOk i = true) (hq : ∀ t' k, Q (.str (myRjust x i c) t') { s with toks := k }) : wpAny (model prog w) A (call (.builtin "str.rjust") [.str x t, .int i u, .str ⟨#[c]⟩ v]) Q E s :=
  call_gives F.slot_str_rjust (typeIs_str _ _ _) F.entry_str_rjust (F.args_str_rjust_3 _ _ _) (my_gives_rjust3 x i c t u v (PadOk.parts hp).1 (PadOk.parts hp).2) (post_val_or_made (fits_padL c (PadOk.parts hp).2) hq)
end PySem
namespace My
open PySem PySem.Spec PyProof.Rows L2
section
variable {X : Cx}
def rM_rjust2 : V → List V → Hp → VK → Prop := fun x xs H Q => ∃ (a : Str) (i : Int) (c : Nat), x = .str a ∧ xs = [.int i, .str ⟨#[c]⟩] ∧ PadOk i = true ∧ Q (.str (myRjust a i c)) H
theorem mt_RJUST2 : MtR X "str.rjust" rM_rjust2 := by
  intro pins s σ H x xs v us Q I rx rs h
  obtain ⟨a, i, c, rfl, rfl, hc, h⟩ := h
  obtain ⟨t, rfl⟩ := rx
  cases rs with
  | cons r1 rs =>
    cases rs with
    | cons r2 rs =>
      cases rs
      obtain ⟨u, rfl⟩ := r1
      obtain ⟨z, rfl⟩ := r2
      exact my_rjust3 hc fun t' k => ⟨.str (myRjust a i c), H, I.tok k, ⟨t', rfl⟩, h⟩
end
theorem rj_S (l : List Nat) (w c : Nat) : myRjust (S l) (w : Int) c = S (List.replicate (w - l.length) c ++ l) := by
  unfold myRjust
  rw [S_len]
  by_cases h : (w : Int) ≤ l.length
  · rw [if_pos h, show w - l.length = 0 by omega]
    rfl
  · rw [if_neg h]
    unfold Builtin.Str.padded
    show (⟨_⟩ : Str) = ⟨_⟩
    congr 1
    apply Array.ext'
    simp
theorem numL_eq (n : Nat) : TL.numL n = (Nat.toDigits 10 n).map Char.toNat := by
  unfold TL.numL
  simp
theorem rj_num (n : Nat) : myRjust (Str.ofString (toString (n : Int))) 6 48 = S (pad 6 n) := by
  rw [SX.num_S]
  have e := rj_S (TL.numL n) 6 48
  rw [numL_eq, List.length_map] at e
  rw [numL_eq]
  exact e
end My

set_option Elab.async false
set_option linter.all false
set_option maxRecDepth 100000
set_option maxHeartbeats 400000
/-! ### unpacking, slices of lists and tuples, appending -/
namespace My
open PySem PySem.Spec PyProof.Rows L2
section
variable {K : PySem.W.Frag} {H : Hp} {Q : VK} {σ : L2.St} {v x : V} {r : List V}
theorem x_gc {t : TG} {u : TGs} {N : L2.St → Hp → Prop} (h : t v σ H fun σ' H' => u r σ' H' N) : gCons t u (v :: r) σ H N := ⟨v, r, rfl, h⟩
theorem x_gz {N : L2.St → Hp → Prop} (h : N σ H) : gNil [] σ H N := ⟨rfl, h⟩
theorem gt_T {a : Addr} {xs : List V} {n : Nat} {t : TGs} {N : L2.St → Hp → Prop} (hs : SqT K H a xs) (hl : xs.length = n) (h : t xs σ H N) : gTup K n t (.ref a) σ H N := ⟨a, xs, rfl, hs, hl, h⟩
theorem x_ckw {rr : List V → List V → Hp → VK → Prop} {ta tk : TA} (h : ta σ H fun vs H1 => tk σ H1 fun zs H2 => rr vs zs H2 Q) : tCKw rr ta tk σ H Q := h
theorem ap_L {p : Addr} {xs : List V} {y : V} (hp : H p = some (.lst xs)) (hl : xs.length ≤ 1000000) (h : Q .non (upd H p (.lst (xs ++ [y])))) : rAppend (.ref p) [y] H Q := ⟨p, xs, y, rfl, rfl, hp, Nat.lt_of_le_of_lt hl (by decide), h⟩
theorem cutV_mid (xs : List V) (a b : Nat) : cutV xs (some (a : Int)) (some (b : Int)) = (xs.take b).drop a := by
  unfold cutV
  rw [HT.sIx_nat, HT.sIx_nat, List.drop_take]
  rcases Nat.le_total a xs.length with h | h
  · rw [Nat.min_eq_left h]
    rcases Nat.le_total b xs.length with h2 | h2
    · rw [Nat.min_eq_left h2]
    · rw [Nat.min_eq_right h2, List.take_of_length_le (by rw [List.length_drop]; exact Nat.le_refl _), List.take_of_length_le (by rw [List.length_drop]; omega)]
  · rw [Nat.min_eq_right h, List.drop_eq_nil_of_le h]
    simp
theorem cutV_from (xs : List V) (a : Nat) : cutV xs (some (a : Int)) none = xs.drop a := by
  unfold cutV
  rw [HT.sIx_nat, HT.sIx_none]
  rcases Nat.le_total a xs.length with h | h
  · rw [Nat.min_eq_left h]
    exact List.take_of_length_le (by rw [List.length_drop]; exact Nat.le_refl _)
  · rw [Nat.min_eq_right h, List.drop_eq_nil_of_le h]
    simp
theorem cutV_to (xs : List V) (b : Nat) : cutV xs none (some (b : Int)) = xs.take b := by
  unfold cutV
  rw [HT.sIx_nat, HT.sIx_none, List.drop_zero, Nat.sub_zero]
  rcases Nat.le_total b xs.length with h | h
  · rw [Nat.min_eq_left h]
  · rw [Nat.min_eq_right h, List.take_of_length_le (Nat.le_refl _), List.take_of_length_le h]
theorem sl_T {a : Addr} {xs : List V} {lo hi : Option Int} (hs : SqT K H a xs) (h : ∀ p H', Same H H' → SqT K H' p (cutV xs lo hi) → Q (.ref p) H') : rSL K (.ref a) lo hi H Q := by
  refine .inr (.inr ⟨a, xs, rfl, hs, fun e => ?_, fun _ p hp => h p _ (same_upd hp) (tup_of upd_same)⟩)
  refine h a H (Same.refl H) ?_
  have e2 : cutV xs lo hi = xs := by
    unfold cutV
    rw [e.1, e.2, List.drop_zero, Nat.sub_zero, List.take_of_length_le (Nat.le_refl _)]
  rw [e2]
  exact hs
theorem sl_any {l : List Nat} {lo hi : Option Int} (hl : l.length ≤ 1000000) (hT : isT l = true) (q : ∀ l', l'.length ≤ l.length → isT l' = true → Q (.str (S l')) H) : rSL K (.str (S l)) lo hi H Q := by
  refine sl_S (by rw [S_len]; exact big_line hl) ?_
  unfold cutS
  rw [S_cps]
  refine q _ ?_ (isT_take _ (isT_drop _ hT))
  rw [List.length_take, List.length_drop]
  omega
theorem mx_L {a : Addr} {ns : List Int} (hs : SqL K H a (ns.map V.int)) (h0 : 0 < ns.length) (q : ∀ m, m ∈ ns → (∀ y, y ∈ ns → y ≤ m) → Q (.int m) H) : rMax K [.ref a] H Q := ⟨a, ns, rfl, hs, h0, q⟩
theorem mxd_L {a : Addr} {ns : List Int} {d : V} (hs : SqL K H a (ns.map V.int)) (h0 : ns = [] → Q d H) (q : ∀ m, m ∈ ns → (∀ y, y ∈ ns → y ≤ m) → Q (.int m) H) : rMAXD K [.ref a] [d] H Q := ⟨a, ns, d, rfl, rfl, hs, h0, q⟩
theorem tu_L {a : Addr} {xs : List V} (hs : SqL K H a xs) (h : ∀ l, H l = none → Q (.ref l) (upd H l (.tup xs))) : rTUPLE K [.ref a] H Q := ⟨a, xs, rfl, .inl ⟨hs, h⟩⟩
end
end My

set_option Elab.async false
set_option linter.all false
set_option maxRecDepth 100000
set_option maxHeartbeats 400000
/-! ### small letters; the least of a list -/
namespace My
open PySem PySem.Spec PyProof.Rows L2
def rM_lower : V → List V → Hp → VK → Prop := fun x xs H Q => ∃ a, x = .str a ∧ xs = [] ∧ a.length ≤ 5592405 ∧ Q (.str (Txt.lower a)) H
theorem lo1_T {c : Nat} (h0 : 32 ≤ c) (h1 : c ≤ 126) : 32 ≤ lo1 c ∧ lo1 c ≤ 126 := by
  have h2 : ∀ c : _root_.Fin 127, 32 ≤ c.val → 32 ≤ lo1 c.val ∧ lo1 c.val ≤ 126 := by decide +kernel
  exact h2 ⟨c, by omega⟩ h0
theorem lw_S {H : Hp} {Q : VK} {l : List Nat} (hl : l.length ≤ 1000000) (hT : isT l = true) (q : ∀ l' : List Nat, l'.length = l.length → isT l' = true → Q (.str (S l')) H) : rM_lower (.str (S l)) [] H Q := by
  refine ⟨S l, rfl, rfl, by rw [S_len]; omega, ?_⟩
  have e : Txt.lower (S l) = S (l.map lo1) := SX.lower_S (List.all_eq_true.mpr fun c hc => decide_eq_true (by have := isT_mem hT hc; omega))
  rw [e]
  refine q _ (List.length_map ..) (isT_of fun c hc => ?_)
  obtain ⟨d, hd, rfl⟩ := List.mem_map.mp hc
  have := isT_mem hT hd
  exact lo1_T this.1 this.2
theorem lcS_mk {H : Hp} {Q : VK} {σ : L2.St} {g : TG} {t : TT} {te : TE} {ws : List Nat} {l : List Nat} (Pv : Addr → Nat → Hp → Prop) (h0 : ∀ D, H D = none → Pv D 0 (upd H D (.lst [])))
    (hs : ∀ D i c H', H D = none → l[i]? = some c → Pv D i H' → g (.str (S [c])) (wipe σ ws) H' fun σ2 H2 => wipe σ2 ws = wipe σ ws ∧ t σ2 H2 fun b H3 => if b = true then te σ2 H3 fun y H4 => ∃ acc, H4 D = some (.lst acc) ∧ acc.length < sizeLine ∧ Pv D (i + 1) (upd H4 D (.lst (acc ++ [y]))) else Pv D (i + 1) H3)
    (hd : ∀ D H', H D = none → Pv D l.length H' → Q (.ref D) H') : LcS g t te ws σ Q (.str (S l)) H := by
  refine ⟨S l, rfl, fun D hD => ⟨fun i m H' => m = l.length - i ∧ i ≤ l.length ∧ Pv D i H', ⟨l.length, by simp, Nat.zero_le _, h0 D hD⟩, ?_⟩⟩
  rintro i m H' ⟨rfl, hi, p⟩
  have hsz : (S l).cps.size = l.length := rfl
  by_cases hlt : i < l.length
  · refine .inr ⟨by show i < (S l).cps.size; rw [hsz]; exact hlt, Pv D (i + 1), fun H2 p' => ⟨l.length - (i + 1), by omega, rfl, hlt, p'⟩, fun x H2 y => ?_⟩
    obtain ⟨rfl, c, hc, rfl⟩ := y
    refine hs D i c _ hD ?_ p
    have e : (S l).cps = l.toArray := rfl
    rw [e] at hc
    simpa using hc
  · have e : i = l.length := by omega
    subst e
    exact .inl ⟨by show (S l).cps.size ≤ l.length; rw [hsz]; exact Nat.le_refl _, hd D H' hD p⟩
section
variable {K : PySem.W.Frag} {H : Hp} {Q : VK}
theorem mn_L {a : Addr} {ns : List Int} (hs : SqL K H a (ns.map V.int)) (h0 : 0 < ns.length) (q : ∀ m, m ∈ ns → (∀ y, y ∈ ns → m ≤ y) → Q (.int m) H) : rMin K [.ref a] H Q := ⟨a, ns, rfl, hs, h0, q⟩
end
end My

set_option Elab.async false
set_option linter.all false
set_option maxRecDepth 100000
set_option maxHeartbeats 1000000
/-! ### raised and caught; tokens; texts exchanged in texts -/
namespace My
open PySem PySem.Spec PyProof.Rows L2
/-! #### raise, try -/
/-- an error of a class without fields leaves -/
def tRaise (c : Value) (E : XK) : TS := fun _ _ H => E c none H
/-- inside a try -/
def tRaiseW (c : Value) (W : WX) : TS := fun _ σ H => W c none σ H
def tTry (K : PySem.W.Frag) (Wout : WX) (l : List (Value × (Addr → Value → Option Addr → TS))) (tb : WX → TS) : TS := fun D σ H => tb (wMany K Wout D l) D σ H
def W0 : WX := fun _ _ _ _ => False
section
variable {X : Cx} {C : Addr}
theorem ps_raiseE {x m : Str} {j : Nat} {p p2 pos pos2 : Pos} {bmB : List Value} {B newId initId : String} {E : XK} (hc : X.calm = true) (tk : Takes X (fun cls d _ H => E cls d H)) (F : ExcBaseFacts B newId initId bmB) (q : PySem.W.excIn X.K C bmB newId = true) (gC : X.mg x = some (.ref C)) (kC : PySem.W.keepIn X.K (.ref C) = true) (r : Raises X (.ref C)) (hg : Gl X x)
    (hdb : (x == ("__debug__" : Str)) = false := by decide) : PS X (.Raise (some (.Call (.Name x p) [.Constant (.str m) j p2] [] pos)) none pos2) (tRaise (.ref C) E) := ps_raise hc tk (pmk_own F q gC kC r hg hdb)
theorem ps_tryM {body : List Stmt} {h₀ : ExceptHandler} {hds : List ExceptHandler} {l : List (Value × (Addr → Value → Option Addr → TS))} {pos : Pos} {tb : WX → TS} {Wout : WX} (hs : X.stack = X.env :: X.outer) (hf : X.env.frame = some X.env.locals) (tk : Takes X Wout)
    (hb : ∀ (W : WX) (pn : List (Addr × Obj)) (xe : Value → Shared → Prop), Takes (X.tr pn xe) W → PassesOwn (model X.prog X.w) X.A X.env xe → PSs (X.tr pn xe) body (tb W))
    (hh : HdsOk X (h₀ :: hds) l) : PS X (.Try body (h₀ :: hds) [] [] pos) (tTry X.K Wout l tb) := ps_try_many hs hf tk hb hh
/-- what a callee lets out, the def lets out -/
theorem passT {E : XK} (tk : Takes X (fun cls d _ H => E cls d H)) : Passes (L2.CX X.prog X.w) X E := fun pins σ H s e s' I c => passAt tk σ pins H s e s' I c
end
/-! #### tokens: a def that is run where a text has been written -/
structure FnT (P : Program) (w : World) (K : PySem.W.Frag) (mg : Str → Option Value) (base : Heap) (CX : CXT) (k : Nat) (f : Addr) (fd : FuncData) (ps : List Str) (sp : Sp) : Prop where
  len : ∀ vs H Q E, sp vs H Q E → vs.length = ps.length
  run : ∀ (A : Around) (outer : List Env) (s : Shared) (H : Hp) (args : Args) (us : List Value) (vs : List V) (Q : VK) (E : XK), 1 ≤ s.toks → Room k A → Env0 P w K mg base A outer s H → BindsTo s fd args (ps.zip us) → Vals vs us → sp vs H Q E →
    codeAny (model P w) A (.call (.ref f) args) (CR CX outer P w H s Q E) s
theorem FnT.mono {P : Program} {w : World} {K : PySem.W.Frag} {mg : Str → Option Value} {base : Heap} {CX : CXT} {j k : Nat} {f : Addr} {fd : FuncData} {ps : List Str} {sp : Sp} (F : FnT P w K mg base CX j f fd ps sp) (h : j ≤ k) :
    FnT P w K mg base CX k f fd ps sp := ⟨F.len, fun A outer s H args us vs Q E h0 hr => F.run A outer s H args us vs Q E h0 (hr.mono h)⟩
theorem fnT_of {CX : CXT} {P : Program} {w : World} {K : PySem.W.Frag} {mg : Str → Option Value} {base : Heap} {k : Nat} {f : Addr} {name qual : Str} {params : Arguments} {body : List Stmt} {scope : Scope} {dV kV doc pm cdv ct oc : Value} {an od : Option Addr}
    {osl : Array (Option Value)} {N ps : List Str} {sp : Sp} (lk : K.lookup f = some ⟨oc, od, .func (PySem.W.fnOf name qual params body scope dV kV doc pm an cdv ct), osl⟩) (hcd : PySem.W.codeIn K cdv qual = true) (S : FnScope N ps scope)
    (len : ∀ vs H Q E, sp vs H Q E → vs.length = ps.length)
    (hbody : ∀ (A : Around) (outer : List Env) (s : Shared) (H : Hp) (vs : List V) (Q : VK) (E : XK), Room k (A.deeper (envOfC qual scope s.heap.objs.size f cdv)) → sp vs H Q E →
      ∃ t, PSsT (cxOf CX P w K mg base N qual scope f cdv A outer s H E) body t ∧ t { nx := fun _ H' => Q .non H', rt := Q } (start N vs) H) :
    FnT P w K mg base CX (k + 1) f (PySem.W.fnOf name qual params body scope dV kV doc pm an cdv ct) ps sp := by
  refine ⟨len, fun A outer s H args us vs Q E h0 hr e0 hb r hsp => ?_⟩
  have hl := len _ _ _ _ hsp
  have KX : K.In s.heap := e0.mod.kin.keeps fun b o e => (e0.bs b o e).1
  have lim : s.heap.NoLimit := e0.mod.nolimit.keeps fun b o e => (e0.bs b o e).1
  have hkind : ∀ y ∈ ps.zip us, scope.names.lookup y.1 = some .local ∨ (scope.names.lookup y.1 = some .cell ∧ ((cellsFrom (s.heap.objs.size + 1) scope.names []).lookup y.1).isSome = true) := fun ⟨n, v⟩ hy => by
    rcases S.par n (List.of_mem_zip hy).1 with q | q
    · exact .inl q
    · exact .inr ⟨q, PySem.W.cellsFrom_some _ _ _ (.inl q)⟩
  refine codeAny_call_function hr.depth (KX _ _ lk) rfl S.co S.gen rfl (PySem.W.codeRec_of KX hcd) (hb _ _ _ _ ?_)
  refine wpAny_with_toks h0 (wpAny_newFunctionEnv_cells S.kind hkind fun env he s1 x => ?_)
  intro h1
  subst he
  refine ⟨lim.keeps x.toInCall.keep, codeAny_func ?_⟩
  obtain ⟨t, ht, hq⟩ := hbody A outer s H vs Q E (hr.deeper _) hsp
  have I : Inv (cxOf CX P w K mg base N qual scope f cdv A outer s H E) [] (start N vs) H s1 := inv_start S hr.hd e0 hl r x
  refine wpAny_mono (ht [] s1 (start N vs) H _ h1 I hq) (fun fl s' hs => ?_) fun e s' hs => hs
  have fin : ∀ {σ' : L2.St} {H' : Hp} {v : V} {u : Value}, Inv (cxOf CX P w K mg base N qual scope f cdv A outer s H E) [] σ' H' s' → RelV v u → Q v H' → CE outer P w H s Q u s' :=
    fun {σ' H' v u} J rv q => ⟨v, H', J.os, J.bare, J.base, J.hok, rv, q⟩
  cases fl with
  | ret u =>
    obtain ⟨v, σ', H', J, rv, q⟩ := hs
    exact fin J rv q
  | next =>
    obtain ⟨σ', H', J, q⟩ := hs
    exact fin (v := V.non) (u := Value.none) J rfl q
  | brk =>
    obtain ⟨_, _, _, q⟩ := hs
    exact False.elim q
  | cont =>
    obtain ⟨_, _, _, q⟩ := hs
    exact False.elim q
theorem Fun.okT {P : Program} {w : World} {K : PySem.W.Frag} {mg : Str → Option Value} {base : Heap} {x qual : Str} {st : Stmt} {f : Addr} {fd : FuncData} {N ps : List Str} {k : Nat} {sp : Sp} (F : L2.Fun K x qual st f fd) (S : FnScope N ps (defScope st)) (len : ∀ vs H Q E, sp vs H Q E → vs.length = ps.length)
    (hbody : ∀ (cdv : Value) (A : Around) (outer : List Env) (s : Shared) (H : Hp) (vs : List V) (Q : VK) (E : XK), Room k (A.deeper (envOfC qual (defScope st) s.heap.objs.size f cdv)) → sp vs H Q E →
      ∃ t, PSsT (cxOf CX0 P w K mg base N qual (defScope st) f cdv A outer s H E) (defBody st) t ∧ t { nx := fun _ H' => Q .non H', rt := Q } (start N vs) H) : FnT P w K mg base CX0 (k + 1) f fd ps sp := by
  obtain ⟨oc, od, kV, doc, pm, an, cdv, ct, osl, rfl, lk, hcd⟩ := F.ex
  exact fnT_of lk hcd S len fun A outer s H vs Q E hr hsp => hbody cdv A outer s H vs Q E hr hsp
section
variable {X : Cx} {CX : CXT} {k : Nat} {f : Addr} {fd : FuncData} {ps : List Str} {sp : Sp} {E : XK} {x m : Str} {p pos apos : Pos} {e o : Expr} {es : List Expr} {ta to te tb : TE} {t : TA} {st : Stmt} {rest : List Stmt} {u v : TS}
theorem PET.of (h : PE X e te) : PET X e te := fun pins s σ H Q _ I q => h.run pins s σ H Q I q
theorem PAT.of (h : PA X es t) : PAT X es t := fun pos pins s σ H Q _ I q => h.run pos pins s σ H Q I q
theorem run_fnT {pins : List (Addr × Obj)} {σ : L2.St} {H : Hp} {s : Shared} {Q : VK} {us : List Value} {vs : List V} (F : FnT X.prog X.w X.K X.mg X.base CX k f fd ps sp) (h0 : 1 ≤ s.toks) (hr : Room k X.A) (hb : Binds X.K fd ps []) (hx : Passes CX X E)
    (I : Inv X pins σ H s) (r : Vals vs us) (h : sp vs H Q E) : wpAny (model X.prog X.w) X.A (call (.ref f) us) (EP X pins σ Q) X.xe s := by
  have hl : us.length = ps.length := by rw [← r.length]; exact F.len _ _ _ _ h
  have b := hb s us I.kIn (by rw [List.append_nil]; exact hl)
  rw [List.append_nil] at b
  refine wpAny_call (codeAny_mono (F.run X.A X.stack s H ⟨us, []⟩ us vs Q E h0 hr I.env0 b r h) fun r s' hq => ?_)
  cases r with
  | error e => exact hx pins σ H s e s' I hq
  | ok fl =>
    cases fl with
    | ret u => exact I.after hq
    | next => exact False.elim hq
    | brk => exact False.elim hq
    | cont => exact False.elim hq
theorem pe_callT (F : FnT X.prog X.w X.K X.mg X.base CX k f fd ps sp) (hr : Room k X.A) (hg : Gl X x) (hm : X.mg x = some (.ref f)) (hk : PySem.W.keepIn X.K (.ref f) = true) (hb : Binds X.K fd ps []) (hx : Passes CX X E)
    (ha : PA X (e :: es) t) (hdb : (x == ("__debug__" : Str)) = false := by decide) (he : starEach (e :: es) X.env = (false, eval e X.env) :: starEach es X.env := by rfl) (hpl : (backTo pos (starEach es X.env)).any (·.1) = false := by rfl) :
    PET X (.Call (.Name x p) (e :: es) [] pos) (tCall sp [] E t) := by
  intro pins s σ H Q h0 I h
  refine wpAny_Call_Name_kw (ld_glob I hg hm ?_ hdb)
  refine PySem.W.callWith_K (h₀ := X.base) I.ok.mod.kin hk (wpAny_mono (wpAny_toks_of h0 (ha.run pos pins s σ H _ I h)) (fun us s1 ⟨h1, vs, H1, I1, r, q⟩ => ⟨I1.kIn, ?_⟩) fun _ _ z => z.2) he hpl
  have q' : sp vs H1 Q E := by
    have e : vs ++ [] = vs := List.append_nil vs
    have q2 : sp (vs ++ []) H1 Q E := q
    rw [e] at q2
    exact q2
  exact run_fnT F h1 hr hb hx I1 r q'
/-- a written text on the left -/
theorem pe_opK {c : Str} {j : Nat} {cp : Pos} {op : Operator} {r : R2} {b : Expr} (ho : OpR X (binaryOp op) r) (hb : PET X b tb) : PE X (.BinOp (.Constant (.str c) j cp) op b pos) (tOp r (tC (.str c)) tb) := by
  refine ⟨fun pins s σ H Q I h => ?_⟩
  refine wpAny_BinOp (Calls.Constant_str ?_)
  refine thn (hb pins { s with toks := s.toks + 1 } σ H _ (Nat.le_add_left _ _) (I.tok _) h) fun u s2 ⟨y, H2, I2, ry, q⟩ => ?_
  exact ho pins s2 σ H2 (.str c) y _ u Q I2 ⟨_, rfl⟩ ry q
theorem pet_op {op : Operator} {r : R2} {a b : Expr} (ho : OpR X (binaryOp op) r) (ha : PET X a ta) (hb : PE X b tb) : PET X (.BinOp a op b pos) (tOp r ta tb) := by
  intro pins s σ H Q h0 I h
  refine wpAny_BinOp (thn (ha pins s σ H _ h0 I h) fun v s1 ⟨x, H1, I1, r1, q1⟩ => ?_)
  refine thn (hb.run pins s1 σ H1 _ I1 q1) fun u s2 ⟨y, H2, I2, r2, q2⟩ => ?_
  exact ho pins s2 σ H2 x y v u Q I2 r1 r2 q2
theorem pst_ret (he : PET X e te) : PST X (.Return (some e) pos) (tRet te) := by
  intro pins s σ H D h0 I h
  exact wpAny_Return_some (thn (he pins s σ H _ h0 I h) fun v s1 ⟨x, H1, I1, r1, q1⟩ => ⟨x, σ, H1, I1, r1, q1⟩)
theorem psst_one (h : PST X st u) : PSsT X [st] u := by
  intro pins s σ H D h0 I q
  refine wpAny_execs_cons (thn (h pins s σ H D h0 I q) fun f s1 q1 => ?_)
  cases f with
  | next =>
    obtain ⟨σ', H', I', q2⟩ := q1
    exact wpAny_execs_nil ⟨σ', H', I', q2⟩
  | ret v => exact q1
  | brk => exact q1
  | cont => exact q1
/-- o.replace('y', 'z') -/
def tRepl (y z : Str) (to : TE) : TE := fun σ H Q => to σ H fun x H1 => ∃ a : Str, x = .str a ∧ a.length + (a.length + 1) * z.length ≤ 16777216 ∧ Q (.str (Txt.replace a y z)) H1
theorem pet_repl {y z : Str} {j0 j1 : Nat} {c0 c1 apos : Pos} (ho : PET X o to) (hyz : (y == z) = false)
    (hst : starEach [.Constant (.str y) j0 c0, .Constant (.str z) j1 c1] X.env = [(false, eval (.Constant (.str y) j0 c0) X.env), (false, eval (.Constant (.str z) j1 c1) X.env)] := by rfl)
    (hbase : attributeBase o "replace" X.env (eval o X.env) = eval o X.env := by rfl) (hline : (apos.endLine == pos.line) = true := by rfl) :
    PET X (.Call (.Attribute o "replace" apos) [.Constant (.str y) j0 c0, .Constant (.str z) j1 c1] [] pos) (tRepl y z to) := by
  intro pins s σ H Q h0 I h
  refine PySem.Call_method2 hbase hst hline (wpAny_mono (wpAny_toks_of h0 (ho pins s σ H _ h0 I h)) (fun v s1 ⟨h1, x, H1, I1, r1, a, ea, hb, q⟩ => ?_) fun _ _ z => z.2)
  subst ea
  obtain ⟨tx, e⟩ := r1
  subst e
  refine ⟨"str", _, F.plainAttrs_str, F.slot_str_replace, F.type_str_replace, typeIs_str _ _ _, (fun _ e => nomatch e), Calls.callWith_builtin rfl (Calls.evalArgs_plain (Calls.spliced_cons (Calls.Constant_str ?_)))⟩
  refine Calls.spliced_cons (Calls.Constant_str (Calls.spliced_nil ?_))
  exact PySem.SC.replace (show s1.toks ≠ 0 by omega) (show s1.toks + 1 ≠ 0 by omega) (show s1.toks ≠ s1.toks + 1 by omega) hyz hb fun t' k => ⟨.str (Txt.replace a y z), H1, I1.tok k, ⟨t', rfl⟩, q⟩
end
section
variable {K : PySem.W.Frag} {σ : L2.St} {H : Hp} {Q : VK} {ta te : TE} {tr : TA} {D : Ends} {x : V}
theorem x_callS {sp : Sp} {E : L2.St → XK} (h : tr σ H fun vs H1 => sp vs H1 Q (E σ)) : tCallS sp E tr σ H Q := h
theorem s_try {Wout : WX} {l : List (Value × (Addr → Value → Option Addr → TS))} {tb : WX → TS} (h : tb (wMany K Wout D l) D σ H) : tTry K Wout l tb D σ H := h
theorem s_raise {c : Value} {E : XK} (h : E c none H) : tRaise c E D σ H := h
theorem x_repl {y z : Str} (h : ta σ H fun x H1 => ∃ a : Str, x = .str a ∧ a.length + (a.length + 1) * z.length ≤ 16777216 ∧ Q (.str (Txt.replace a y z)) H1) : tRepl y z ta σ H Q := h
theorem x_disp {trs : List (TE × TE)} (h : ∀ p, H p = none → tPairs trs σ (upd H p (.dK [])) fun ps H2 => H2 p = some (.dK []) ∧ ∃ kvs : List (Key × V), ps = kvs.map (fun kv => (kV kv.1, kv.2)) ∧ kvs.length ≤ 15 ∧ Q (.ref p) (upd H2 p (.dK (mergeK [] kvs)))) : tDisp trs σ H Q := h
theorem w_hit {K : PySem.W.Frag} {Wout : WX} {D : Ends} {c cls : Value} {d : Option Addr} {ts : Addr → Value → Option Addr → TS} {r : List (Value × (Addr → Value → Option Addr → TS))} (e : PySem.W.exmOne K cls c = some true) (h : ∀ a, H a = none → ts a cls d D σ H) : wMany K Wout D ((c, ts) :: r) cls d σ H := ⟨true, e, (fun _ => h), (fun z => nomatch z)⟩
theorem w_miss {K : PySem.W.Frag} {Wout : WX} {D : Ends} {c cls : Value} {d : Option Addr} {ts : Addr → Value → Option Addr → TS} {r : List (Value × (Addr → Value → Option Addr → TS))} (e : PySem.W.exmOne K cls c = some false) (h : wMany K Wout D r cls d σ H) : wMany K Wout D ((c, ts) :: r) cls d σ H := ⟨false, e, (fun z => nomatch z), fun _ => h⟩
theorem ty_D {d : PyData} (h : Dp K H x d) (q : Q (.ty (tyName d)) H) : rTyp K [x] H Q := by
  cases h with
  | non => exact ty_N q
  | bl b => exact ty_B q
  | int i => exact ty_I q
  | str z => exact ty_S q
  | lst h _ => exact ty_L h q
  | tup h _ => exact ty_T h q
end
/-- one sign exchanged for a text, sign by sign -/
theorem repl_S (l : List Nat) (c : Nat) (z : List Nat) : Txt.replace (S l) (S [c]) (S z) = S (l.flatMap fun d => if d = c then z else [d]) := by
  have e := StrLaws.replace_list (x := S l) (y := S [c]) (z := S z) (Nat.le_refl 1)
  have e2 : (Txt.replace (S l) (S [c]) (S z)).cps.toList = l.flatMap fun d => if d = c then z else [d] := by
    rw [e]
    show StrLaws.replL [c] z l = _
    clear e
    induction l with
    | nil => exact StrLaws.replL_nil
    | cons d l ih =>
      rw [List.flatMap_cons]
      by_cases h : d = c
      · subst h
        rw [StrLaws.replL_hit (by simp) rfl, if_pos rfl]
        show z ++ StrLaws.replL [d] z l = _
        rw [ih]
      · rw [StrLaws.replL_miss (by simpa using h), if_neg h, ih]
        rfl
  rw [S_eta (Txt.replace (S l) (S [c]) (S z)), e2]
end My

set_option Elab.async false
set_option linter.all false
set_option maxRecDepth 100000
set_option maxHeartbeats 1000000
/-! ### heaps that change at two places; lists of drawn things; data -/
namespace My
open PySem PySem.Spec PyProof.Rows L2
section
variable {K : PySem.W.Frag}
def Frm (s g : Addr) (H H' : Hp) : Prop := ∀ a o, a ≠ s → a ≠ g → H a = some o → H' a = some o
theorem Frm.refl {s g : Addr} (H : Hp) : Frm s g H H := fun _ _ _ _ h => h
theorem Frm.trans {s g : Addr} {H1 H2 H3 : Hp} (a : Frm s g H1 H2) (b : Frm s g H2 H3) : Frm s g H1 H3 := fun x o h1 h2 h => b x o h1 h2 (a x o h1 h2 h)
theorem Frm.new {s g p : Addr} {H H' : Hp} {o : HO} (a : Frm s g H H') (h : H' p = none) : Frm s g H (upd H' p o) := fun x u h1 h2 e => by
  have e' := a x u h1 h2 e
  rw [upd_ne (ne_of_none e' h)]
  exact e'
theorem Frm.updS {s g : Addr} {H H' : Hp} {o : HO} (a : Frm s g H H') : Frm s g H (upd H' s o) := fun x u h1 h2 e => by
  rw [upd_ne h1]
  exact a x u h1 h2 e
theorem Frm.updG {s g : Addr} {H H' : Hp} {o : HO} (a : Frm s g H H') : Frm s g H (upd H' g o) := fun x u h1 h2 e => by
  rw [upd_ne h2]
  exact a x u h1 h2 e
theorem Frm.same {s g : Addr} {R H H' : Hp} (a : Frm s g H H') (e : Same R H) (hs : R s = none) (hg : R g = none) : Same R H' := fun x o h => a x o (fun z => by rw [z, hs] at h; cases h) (fun z => by rw [z, hg] at h; cases h) (e x o h)
theorem dp_ints {p : Addr} {H : Hp} (ns : List Int) (h : SqL K H p (ns.map V.int)) : Dp K H (.ref p) (.list (ns.map PyData.int)) := by
  refine .lst h ?_
  clear h
  induction ns with
  | nil => exact .nil
  | cons b bs ih => exact .cons (.int b) ih
theorem shaped_ints (ns : List Int) : SeqAt.shaped (.list (ns.map PyData.int)) = true := by
  have h1 : PyData.canLayAll0 (ns.map PyData.int) = true := by
    induction ns with
    | nil => rfl
    | cons b bs ih => simp [PyData.canLayAll0, PyData.canLay0, ih]
  have h2 : PyData.depthAll (ns.map PyData.int) ≤ 1 := by
    clear h1
    induction ns with
    | nil => simp [PyData.depthAll]
    | cons b bs ih =>
      simp only [List.map_cons, PyData.depthAll, PyData.depth] at *
      omega
  unfold SeqAt.shaped
  rw [Bool.and_eq_true]
  refine ⟨h1, decide_eq_true ?_⟩
  simp only [PyData.depth]
  omega
theorem log_40 {n : Int} (h0 : 0 < n) (h : n < 2 ^ 40) : n.natAbs.log2 < 9000 := by
  have h1 : n.natAbs < 2 ^ 40 := by omega
  exact Nat.lt_trans ((Nat.log2_lt (by omega)).mpr h1) (by decide)
theorem map_get {ns : List Int} {i : Nat} {x : V} (h : (ns.map V.int)[i]? = some x) : ∃ z, ns[i]? = some z ∧ x = .int z := by
  rw [List.getElem?_map] at h
  cases e : ns[i]? with
  | none => rw [e] at h; cases h
  | some z =>
    rw [e] at h
    exact ⟨z, rfl, (Option.some.inj h).symm⟩
theorem flat_len : ∀ {cs : List (List Nat)}, (∀ c ∈ cs, c.length = 1) → cs.flatten.length = cs.length
  | [], _ => rfl
  | c :: cs, h => by
    rw [List.flatten_cons, List.length_append, h c (List.mem_cons_self ..), flat_len fun d hd => h d (List.mem_cons_of_mem _ hd), List.length_cons]
    omega
theorem isT_flat {cs : List (List Nat)} (h : ∀ c ∈ cs, isT c = true) : isT cs.flatten = true := isT_of fun x hx => by
  obtain ⟨c, hc, hm⟩ := List.mem_flatten.mp hx
  exact isT_mem (h c hc) hm
theorem repl_len (k : Nat) (l : List Nat) : (List.replicate k l).flatten.length = k * l.length := by
  rw [List.length_flatten, List.map_replicate, List.sum_replicate_nat]
theorem isT_get {l : List Nat} (h : isT l = true) {i c : Nat} (hc : l[i]? = some c) : isT [c] = true := isT_of fun x hx => by
  rw [List.mem_singleton] at hx
  subst hx
  exact isT_mem h (List.mem_of_getElem? hc)
theorem Frm.of {s g : Addr} {H H' : Hp} (e : Same H H') : Frm s g H H' := fun a o _ _ h => e a o h
theorem Frm.mut {s g B : Addr} {H H' : Hp} {o : HO} (a : Frm s g H H') (hB : H B = none) : Frm s g H (upd H' B o) := fun x u h1 h2 e => by
  rw [upd_ne (ne_of_none e hB)]
  exact a x u h1 h2 e
def RngAll (lo hi : Int) (xs : List V) : Prop := ∀ x ∈ xs, ∃ i : Int, lo ≤ i ∧ i ≤ hi ∧ x = V.int i
theorem rng_nil {lo hi : Int} : RngAll lo hi [] := fun _ h => by cases h
theorem rng_cons {lo hi i : Int} {xs : List V} (h0 : lo ≤ i) (h1 : i ≤ hi) (h : RngAll lo hi xs) : RngAll lo hi (.int i :: xs) := fun x hx => by
  rcases List.mem_cons.mp hx with rfl | hx
  · exact ⟨i, h0, h1, rfl⟩
  · exact h x hx
theorem ix_rng {H : Hp} {Q : VK} {p : Addr} {zs : List V} {lo hi : Int} {i : Int} (hp : SqL K H p zs) (ha : RngAll lo hi zs) (h0 : 0 ≤ i) (h1 : i < (zs.length : Int)) (q : ∀ z : Int, lo ≤ z → z ≤ hi → Q (.int z) H) : rIX K (.ref p) (.int i) H Q := by
  refine ix_L hp (at_in h0 h1) ?_
  have hi : i.toNat < zs.length := by omega
  obtain ⟨z, a, b, e⟩ := ha zs[i.toNat] (List.getElem_mem hi)
  rw [e]
  exact q z a b
theorem rep1 (k c : Nat) : (List.replicate k [c]).flatten = List.replicate k c := by
  induction k with
  | zero => rfl
  | succ k ih => rw [List.replicate_succ, List.flatten_cons, ih]; rfl
theorem rep1_isT {k c : Nat} (h : isT [c] = true) : isT (List.replicate k c) = true := isT_of fun x hx => by
  rw [(List.mem_replicate.mp hx).2]
  exact isT_mem h (List.mem_singleton.mpr rfl)
def menu1 : List Nat := [32, 33, 34, 35, 36, 38, 39, 40, 41, 42, 43, 44, 45, 46, 47, 48, 49, 50, 51, 52, 53, 54, 55, 56, 57, 58, 59, 60, 61, 62, 63, 64, 65, 66, 67, 68, 69, 70, 71, 72, 73, 74, 75, 76, 77, 78, 79, 80, 81, 82, 83, 84, 85, 86, 87, 88, 89, 90, 91, 92, 93, 94, 95, 96]
def menu2 : List Nat := [97, 98, 99, 100, 101, 102, 103, 104, 105, 106, 107, 108, 109, 110, 111, 112, 113, 114, 115, 116, 117, 118, 119, 120, 121, 122, 123, 124, 125, 126]
theorem digit_code {n : Nat} : ∀ c ∈ (Nat.toDigits 10 n).map Char.toNat, 48 ≤ c ∧ c ≤ 57 := by
  intro c hc
  have h1 : n < 10 ^ (n + 1) := Nat.lt_trans (Nat.lt_succ_self n) (Nat.lt_pow_self (by decide))
  have h2 := figs_isD (n + 1) n
  rw [← pad_figs (n + 1) n h1 (Nat.succ_pos _)] at h2
  have h3 := List.all_eq_true.mp h2 c (List.mem_append_right _ hc)
  rw [Bool.and_eq_true, decide_eq_true_eq, decide_eq_true_eq] at h3
  exact h3
theorem zf_num (w n : Nat) : Txt.zfill (Str.ofString (toString (n : Int))) (w : Int) = S (pad w n) := by
  rw [SX.num_S, numL_eq]
  unfold Txt.zfill pad
  have hl : (S ((Nat.toDigits 10 n).map Char.toNat)).length = (Nat.toDigits 10 n).length := by rw [S_len, List.length_map]
  show (if (w : Int) ≤ (S ((Nat.toDigits 10 n).map Char.toNat)).length then S ((Nat.toDigits 10 n).map Char.toNat) else zfilled (S ((Nat.toDigits 10 n).map Char.toNat)) ((w : Int).toNat - (S ((Nat.toDigits 10 n).map Char.toNat)).length)) = _
  rw [hl]
  by_cases h : (w : Int) ≤ (Nat.toDigits 10 n).length
  · rw [if_pos h, show w - (Nat.toDigits 10 n).length = 0 by omega]
    rfl
  · rw [if_neg h, Int.toNat_natCast]
    have hd := digit_code (n := n)
    generalize (Nat.toDigits 10 n).map Char.toNat = l at hd
    generalize w - (Nat.toDigits 10 n).length = k
    have e : zfilled (S l) k = Builtin.Str.padded (S l) k 0 48 := by
      unfold zfilled
      have h0 : ∀ c, (S l).cps[0]? = some c → 48 ≤ c := fun c hc => by
        have : l[0]? = some c := by
          have e : (S l).cps = l.toArray := rfl
          rw [e] at hc
          simpa using hc
        exact (hd c (List.mem_of_getElem? this)).1
      split
      · rename_i h
        exact absurd (h0 43 h) (by decide)
      · rename_i h
        exact absurd (h0 45 h) (by decide)
      · rfl
    rw [e]
    show (⟨_⟩ : Str) = ⟨_⟩
    congr 1
    apply Array.ext'
    simp
theorem log_small {n : Nat} (h : n < 1000000) : ((n : Int).natAbs).log2 < 1920 := by
  rw [Int.natAbs_natCast]
  by_cases h0 : n = 0
  · subst h0; decide
  · exact Nat.lt_of_lt_of_le ((Nat.log2_lt h0).mpr (show n < 2 ^ 20 by omega)) (by decide)
def tv (ls : List (List Nat)) : List V := ls.map fun l => V.str (S l)
theorem tv_len (ls : List (List Nat)) : (tv ls).length = ls.length := List.length_map ..
theorem tv_app (a b : List (List Nat)) : tv (a ++ b) = tv a ++ tv b := List.map_append ..
theorem tv_eq (ls : List (List Nat)) : tv ls = (ls.map S).map V.str := by
  unfold tv
  rw [List.map_map]
  rfl
theorem take_snoc {α : Type} {xs : List α} {i : Nat} {x : α} (h : xs[i]? = some x) : xs.take (i + 1) = xs.take i ++ [x] := by
  rw [List.take_add_one, h]
  rfl
theorem pad_le {w n : Nat} (h : n < 1000000) : (pad w n).length ≤ w + 6 := by
  unfold pad
  have h1 := toDigits_len10 (w := 6) (n := n) (by omega) (by decide)
  rw [List.length_append, List.length_replicate, List.length_map]
  omega
theorem flat_le {n : Nat} : ∀ {cs : List (List Nat)}, (∀ c ∈ cs, c.length ≤ n) → cs.flatten.length ≤ n * cs.length
  | [], _ => Nat.zero_le _
  | c :: cs, h => by
    rw [List.flatten_cons, List.length_append, List.length_cons, Nat.mul_add, Nat.mul_one]
    have h1 := h c (List.mem_cons_self ..)
    have h2 := flat_le fun d hd => h d (List.mem_cons_of_mem _ hd)
    omega
theorem sz {k : Nat} (h : k ≤ 200000) : k ≤ sizeLine := Nat.le_trans h (by decide)
theorem dp_tup2 {H : Hp} {x : V} {a b : PyData} (h : Dp K H x (.tuple [a, b])) : ∃ p u v, x = .ref p ∧ SqT K H p [u, v] ∧ Dp K H u a ∧ Dp K H v b := by
  cases h with
  | tup hs ha =>
    cases ha with
    | cons h1 ha =>
      cases ha with
      | cons h2 ha =>
        cases ha
        exact ⟨_, _, _, rfl, hs, h1, h2⟩
theorem dp_tup3 {H : Hp} {x : V} {a b c : PyData} (h : Dp K H x (.tuple [a, b, c])) : ∃ p u v z, x = .ref p ∧ SqT K H p [u, v, z] ∧ Dp K H u a ∧ Dp K H v b ∧ Dp K H z c := by
  cases h with
  | tup hs ha =>
    cases ha with
    | cons h1 ha =>
      cases ha with
      | cons h2 ha =>
        cases ha with
        | cons h3 ha =>
          cases ha
          exact ⟨_, _, _, _, rfl, hs, h1, h2, h3⟩
theorem dp_str' {H : Hp} {x : V} {z : Str} (h : Dp K H x (.str z)) : x = .str z := by
  cases h
  rfl
theorem dp_int' {H : Hp} {x : V} {z : Int} (h : Dp K H x (.int z)) : x = .int z := by
  cases h
  rfl
theorem dp_tup' {H : Hp} {x : V} {ds : List PyData} (h : Dp K H x (.tuple ds)) : ∃ p us, x = .ref p ∧ SqT K H p us ∧ DpAll K H us ds := by
  cases h with
  | tup hs ha => exact ⟨_, _, rfl, hs, ha⟩
theorem all_at {α : Type} {F : α → PyData} {H : Hp} {us : List V} {xs : List α} (h : DpAll K H us (xs.map F)) {i : Nat} {x : V} (hx : us[i]? = some x) : ∃ a, xs[i]? = some a ∧ Dp K H x (F a) := by
  have hl := dpAll_len h
  rw [List.length_map] at hl
  have hi : i < xs.length := by rw [← hl]; exact (List.getElem?_eq_some_iff.mp hx).1
  obtain ⟨v, hv, hd⟩ := dpAll_get h (i := i) (by rw [List.length_map]; exact hi)
  rw [hx] at hv
  cases hv
  rw [List.getElem_map] at hd
  exact ⟨xs[i], List.getElem?_eq_getElem hi, hd⟩
def isBo : PyData → Bool | .bool _ => true | _ => false
def isIn : PyData → Bool | .bool _ => true | .int _ => true | _ => false
def isSt : PyData → Bool | .str _ => true | _ => false
def isTu : PyData → Bool | .tuple _ => true | _ => false
def isLi : PyData → Bool | .list _ => true | _ => false
def isNo : PyData → Bool | .none => true | _ => false
theorem kit_bo {H : Hp} {x : V} {d : PyData} (h : Dp K H x d) : kitB (tyName d) "bool" = some (isBo d) := by cases h <;> first | rfl | decide +kernel
theorem kit_in {H : Hp} {x : V} {d : PyData} (h : Dp K H x d) : kitB (tyName d) "int" = some (isIn d) := by cases h <;> first | rfl | decide +kernel
theorem kit_st {H : Hp} {x : V} {d : PyData} (h : Dp K H x d) : kitB (tyName d) "str" = some (isSt d) := by cases h <;> first | rfl | decide +kernel
theorem kit_tu {H : Hp} {x : V} {d : PyData} (h : Dp K H x d) : kitB (tyName d) "tuple" = some (isTu d) := by cases h <;> first | rfl | decide +kernel
theorem kit_li {H : Hp} {x : V} {d : PyData} (h : Dp K H x d) : kitB (tyName d) "list" = some (isLi d) := by cases h <;> first | rfl | decide +kernel
theorem non_d {H : Hp} {x : V} {d : PyData} (h : Dp K H x d) : decide (x = .non) = isNo d := by cases h <;> rfl
def Up (F : PyData → Prop) : PyData → Prop
  | .list ds => ds.length ≤ 100000 ∧ ∀ e ∈ ds, F e
  | .tuple ds => ds.length ≤ 100000 ∧ ∀ e ∈ ds, F e
  | d => SeqAt.shaped d = true
def Fine : Nat → PyData → Prop
  | 0 => Up fun _ => False
  | n + 1 => Up (Fine n)
def SqX (K : PySem.W.Frag) (H : Hp) (p : Addr) (xs : List V) : Prop := SqL K H p xs ∨ SqT K H p xs
theorem SqX.mono {H H' : Hp} {p : Addr} {xs : List V} (e : Same H H') (h : SqX K H p xs) : SqX K H' p xs := h.elim (fun h => .inl (e.seq h)) fun h => .inr (same_sqt e h)
theorem ix_X {H : Hp} {Q : VK} {p : Addr} {xs : List V} {i : Int} {v : V} (h : SqX K H p xs) (ha : atI xs i = some v) (q : Q v H) : rIX K (.ref p) (.int i) H Q := h.elim (fun h => ix_L h ha q) fun h => ix_T h ha q
theorem ln_X {H : Hp} {Q : VK} {p : Addr} {xs : List V} (h : SqX K H p xs) (q : Q (.int xs.length) H) : rLEN K [.ref p] H Q := h.elim (fun h => ln_l h q) fun h => ln_t h q
def numAt (l : List Nat) (a k : Nat) : Option Nat := if ((l.take (a + k)).drop a).length = k ∧ k ≠ 0 ∧ isD ((l.take (a + k)).drop a) = true then some (NumText.digitsVal ((l.take (a + k)).drop a)) else none
inductive NumV : Option Nat → V → Prop where
  | some (n : Nat) : NumV (some n) (.int n)
  | none : NumV none .non
theorem mem_fig (c : Nat) : c ∈ [48, 49, 50, 51, 52, 53, 54, 55, 56, 57] ↔ 48 ≤ c ∧ c ≤ 57 := by
  simp only [List.mem_cons, List.not_mem_nil, or_false]
  omega
theorem isD_snoc {l : List Nat} {i c : Nat} (h : l[i]? = some c) : isD (l.take (i + 1)) = (isD (l.take i) && (decide (48 ≤ c) && decide (c ≤ 57))) := by
  rw [List.take_add_one, h]
  unfold isD
  show List.all (_ ++ [c]) _ = _
  rw [List.all_append]
  simp
theorem eqv_ints (ns : List Int) : PyData.eqv (.list (ns.map PyData.int)) (.list []) = decide (ns = []) := by
  cases ns with
  | nil => rfl
  | cons n ns =>
    rw [decide_eq_false (by intro h; cases h)]
    rfl
theorem dp_strs (H : Hp) : ∀ ls : List (List Nat), DpAll K H (tv ls) (ls.map fun l => PyData.str (S l))
  | [] => .nil
  | l :: ls => .cons (.str _) (dp_strs H ls)
def AllT (ls : List (List Nat)) : Prop := ∀ l ∈ ls, isT l = true
theorem shaped_strs (ls : List (List Nat)) (h : AllT ls) : SeqAt.shaped (.list (ls.map fun l => PyData.str (S l))) = true := by
  have h1 : PyData.canLayAll0 (ls.map fun l => PyData.str (S l)) = true := by
    induction ls with
    | nil => rfl
    | cons b bs ih =>
      have hb : PyData.strOk (S b) = true := by
        unfold PyData.strOk
        rw [← Array.all_toList, S_cps, List.all_eq_true]
        intro c hc
        have := isT_mem (h b (List.mem_cons_self ..)) hc
        exact decide_eq_true (by omega)
      simp [PyData.canLayAll0, PyData.canLay0, ih fun l hl => h l (List.mem_cons_of_mem _ hl), hb]
  have h2 : PyData.depthAll (ls.map fun l => PyData.str (S l)) ≤ 1 := by
    clear h1 h
    induction ls with
    | nil => simp [PyData.depthAll]
    | cons b bs ih =>
      simp only [List.map_cons, PyData.depthAll, PyData.depth] at *
      omega
  unfold SeqAt.shaped
  rw [Bool.and_eq_true]
  refine ⟨h1, decide_eq_true ?_⟩
  simp only [PyData.depth]
  omega
theorem eqv_strs (ls : List (List Nat)) : PyData.eqv (.list (ls.map fun l => PyData.str (S l))) (.list []) = decide (ls = []) := by
  cases ls with
  | nil => rfl
  | cons n ns =>
    rw [decide_eq_false (by intro h; cases h)]
    rfl
theorem mid {A B C : List Nat} {i j : Nat} (hi : A.length = i) (hj : i + B.length = j) : ((A ++ (B ++ C)).take j).drop i = B := by
  rw [← List.append_assoc, List.take_left' (by rw [List.length_append, hi]; exact hj), List.drop_left' hi]
theorem numAt_mid {A B C : List Nat} {a k : Nat} (ha : A.length = a) (hk : B.length = k) (h0 : k ≠ 0) (hD : isD B = true) : numAt (A ++ (B ++ C)) a k = some (NumText.digitsVal B) := by
  unfold numAt
  rw [mid ha (by rw [hk]), if_pos ⟨hk, h0, hD⟩]
theorem numAt_pad {A C : List Nat} {a w n : Nat} (ha : A.length = a) (h0 : w ≠ 0) (hn : n < 10 ^ w) : numAt (A ++ (pad w n ++ C)) a w = some n := by
  rw [pad_figs w n hn (Nat.pos_of_ne_zero h0), numAt_mid ha (figs_len w n) h0 (figs_isD w n), digitsVal_figs w n hn]
theorem pad_lenW {w n : Nat} (h0 : w ≠ 0) (hn : n < 10 ^ w) : (pad w n).length = w := by
  rw [pad_figs w n hn (Nat.pos_of_ne_zero h0), figs_len]
def kv (ks : List Nat) : List V := ks.map fun k : Nat => V.int k
theorem kv_app (a b : List Nat) : kv (a ++ b) = kv a ++ kv b := List.map_append ..
theorem kv_len (a : List Nat) : (kv a).length = a.length := List.length_map ..
theorem dp_kv (H : Hp) : ∀ ks : List Nat, DpAll K H (kv ks) (ks.map fun k : Nat => PyData.int k)
  | [] => .nil
  | k :: ks => .cons (.int _) (dp_kv H ks)
theorem shaped_str {l : List Nat} (h : isT l = true) : SeqAt.shaped (.str (S l)) = true := by
  have hb : PyData.strOk (S l) = true := by
    unfold PyData.strOk
    rw [← Array.all_toList, S_cps, List.all_eq_true]
    intro c hc
    have := isT_mem h hc
    exact decide_eq_true (by omega)
  unfold SeqAt.shaped
  simp [PyData.canLay0, PyData.depth, hb]
theorem fine_str {l : List Nat} (h : isT l = true) : ∀ n, Fine n (.str (S l))
  | 0 => shaped_str h
  | _ + 1 => shaped_str h
theorem fine_int (i : Int) : ∀ n, Fine n (.int i)
  | 0 => by show SeqAt.shaped (.int i) = true; simp [SeqAt.shaped, PyData.canLay0, PyData.depth]
  | _ + 1 => by show SeqAt.shaped (.int i) = true; simp [SeqAt.shaped, PyData.canLay0, PyData.depth]
theorem fine_non : ∀ n, Fine n .none
  | 0 => by show SeqAt.shaped .none = true; simp [SeqAt.shaped, PyData.canLay0, PyData.depth]
  | _ + 1 => by show SeqAt.shaped .none = true; simp [SeqAt.shaped, PyData.canLay0, PyData.depth]
theorem fine_tup {n : Nat} {ds : List PyData} (hl : ds.length ≤ 100000) (h : ∀ e ∈ ds, Fine n e) : Fine (n + 1) (.tuple ds) := ⟨hl, h⟩
theorem fine_lst {n : Nat} {ds : List PyData} (hl : ds.length ≤ 100000) (h : ∀ e ∈ ds, Fine n e) : Fine (n + 1) (.list ds) := ⟨hl, h⟩
theorem all2 {α : Type} {F : α → Prop} {a b : α} (h1 : F a) (h2 : F b) : ∀ e ∈ [a, b], F e := fun e he => by
  rcases List.mem_cons.mp he with rfl | he
  · exact h1
  · rw [List.mem_singleton.mp he]; exact h2
theorem all3 {α : Type} {F : α → Prop} {a b c : α} (h1 : F a) (h2 : F b) (h3 : F c) : ∀ e ∈ [a, b, c], F e := fun e he => by
  rcases List.mem_cons.mp he with rfl | he
  · exact h1
  · exact all2 h2 h3 e he
theorem pad_T {w n : Nat} (h0 : w ≠ 0) (hn : n < 10 ^ w) : isT (pad w n) = true := by
  rw [pad_figs w n hn (Nat.pos_of_ne_zero h0)]
  exact isD_isT (figs_isD w n)
theorem flat_eq {n : Nat} : ∀ {cs : List (List Nat)}, (∀ c ∈ cs, c.length = n) → cs.flatten.length = n * cs.length
  | [], _ => rfl
  | c :: cs, h => by
    rw [List.flatten_cons, List.length_append, List.length_cons, Nat.mul_add, Nat.mul_one]
    have h1 := h c (List.mem_cons_self ..)
    have h2 := flat_eq fun d hd => h d (List.mem_cons_of_mem _ hd)
    omega
end
end My

set_option Elab.async false
set_option linter.all false
set_option maxRecDepth 100000
set_option maxHeartbeats 1000000
/-! ### tuples turned about; dicts that are sorted -/
namespace My
open PySem PySem.Spec PyProof.Rows L2 PySem.MeetsSeq PySem.MeetsSeq2 PySem.MeetsSeq3
theorem adjust_rev (n : Nat) : Builtin.Slice.sliceAdjust none none (-1) (n : Int) = ((n : Int) - 1, -1) := by
  unfold Builtin.Slice.sliceAdjust
  simp only [show ((-1 : Int) < 0) by decide, if_true]
theorem places_rev (n : Nat) : Builtin.Slice.slicePlaces ((n : Int) - 1) (-1) (-1) = n := by
  unfold Builtin.Slice.slicePlaces
  simp only [show ¬ ((-1 : Int) > 0) by decide, if_false, Int.neg_neg, Int.ediv_one]
  split <;> omega
theorem pick_rev (xs : Array Value) : ((List.range xs.size).filterMap fun (m : Nat) => xs[(((xs.size : Int) - 1) + (m : Int) * (-1)).toNat]?).toArray = xs.toList.reverse.toArray := by
  congr 1
  have e1 : ∀ (ms : List Nat), (∀ m ∈ ms, m < xs.size) → ms.filterMap (fun (m : Nat) => xs[(((xs.size : Int) - 1) + (m : Int) * (-1)).toNat]?) = ms.filterMap (fun (m : Nat) => xs.toList.reverse.toArray[m]?) := by
    intro ms
    induction ms with
    | nil => intro _; rfl
    | cons m ms ih =>
      intro hm
      have h3 : m < xs.size := hm m (List.mem_cons_self ..)
      have h4 : (((xs.size : Int) - 1) + (m : Int) * (-1)).toNat = xs.size - 1 - m := by omega
      have h5 : xs[(((xs.size : Int) - 1) + (m : Int) * (-1)).toNat]? = xs.toList.reverse.toArray[m]? := by
        have a1 : xs.toList.reverse.toArray[m]? = xs.toList.reverse[m]? := by simp
        have a2 : xs.toList.reverse[m]? = xs.toList[xs.toList.length - 1 - m]? := List.getElem?_reverse (by rw [Array.length_toList]; exact h3)
        rw [h4, a1, a2, Array.length_toList, Array.getElem?_toList]
      rw [List.filterMap_cons, List.filterMap_cons, h5, ih fun x hx => hm x (List.mem_cons_of_mem _ hx)]
  rw [e1 _ fun m hm => List.mem_range.mp hm]
  have e2 := pick_run xs.toList.reverse.toArray 0 xs.size
  rw [show (List.range xs.size).map (0 + ·) = List.range xs.size by simp] at e2
  rw [e2, List.drop_zero]
  show xs.toList.reverse.take xs.size = _
  exact List.take_of_length_le (by rw [List.length_reverse, Array.length_toList]; exact Nat.le_refl _)
section
variable {prog : Program} {w : World} {A : Around} {E : Value → Shared → Prop} {s : Shared}
theorem sliceApplied_rev {sl : Addr} {vs : Value} {n : Nat} {Q : Int × Int × Nat → Shared → Prop} (hs : s.heap.IsSliceOf sl .none .none vs) (ps : IsPart vs (some (-1)))
    (h : Q ((n : Int) - 1, -1, n) s) : wpAny (model prog w) A (Builtin.Slice.sliceApplied (.ref sl) (pure (n : Int))) Q E s := by
  obtain ⟨os, hos, hcs, hds⟩ := id hs
  unfold Builtin.Slice.sliceApplied Builtin.Slice.sliceFields
  refine wpAny_bind (wpAny_bind (wpAny_field hos hds (x := .none) rfl (wpAny_bind (wpAny_field hos hds (x := .none) rfl (wpAny_bind (wpAny_field hos hds (x := vs) rfl (wpAny_pure ?_)))))))
  refine wpAny_bind (HT.slicePart_ ps ?_)
  show wpAny _ _ (if ((-1 : Int) == 0) = true then _ else _) _ _ s
  rw [if_neg (by decide)]
  refine wpAny_bind (HT.slicePart_ .none (wpAny_bind (HT.slicePart_ .none (wpAny_bind (wpAny_pure ?_)))))
  show wpAny _ _ (match Builtin.Slice.sliceAdjust none none (-1) (n : Int) with | (lo, hi) => pure (lo, (-1 : Int), Builtin.Slice.slicePlaces lo hi (-1))) _ _ s
  rw [adjust_rev n]
  show wpAny _ _ (pure ((n : Int) - 1, (-1 : Int), Builtin.Slice.slicePlaces ((n : Int) - 1) (-1) (-1))) _ _ s
  rw [places_rev]
  exact wpAny_pure h
theorem getItem_tuple_rev {t sl : Addr} {items : Array Value} {vs : Value} {Q : Value → Shared → Prop} (ht : IsTup s.heap t items) (hs : s.heap.IsSliceOf sl .none .none vs) (ps : IsPart vs (some (-1)))
    (h : Q (.ref s.heap.objs.size) { s with heap := s.heap.push { cls := .type "tuple", data := .seq items.toList.reverse.toArray } })
    (hsz : items.size ≤ sizeLine) : wpAny (model prog w) A (getItem (.ref t) (.ref sl)) Q E s := by
  have htake : sizeOk (.seq items.toList.reverse.toArray) := by
    show items.toList.reverse.toArray.size ≤ sizeLine
    rw [List.size_toArray, List.length_reverse, Array.length_toList]
    exact hsz
  obtain ⟨os, hos, hcs, hds⟩ := id hs
  have hTs : s.TypeIs (.ref sl) "slice" := ⟨os, hos, hcs⟩
  unfold getItem
  try with_reducible refine wpAny_holding ?_
  first | refine wpAny_bind (wpAny_pure ?_) | skip
  refine wpAny_bind (wpAny_sequenceKey ht.typeIs (by decide) ?_)
  refine wpAny_bind (wpAny_callSpecial?_slot (name := Str.ofString "__getitem__") ht.typeIs PyProof.Rows.slot_tuple_getitem
    (wpAny_call_entry PyProof.Rows.slot_tuple_getitem ht.typeIs entry_tuple_getitem ?_ (args_tuple_getitem _ _)))
  show wpAny _ _ (Builtin.Tuple.tupleItemsOf (.ref t) >>= _) _ _ s
  refine wpAny_bind (tupleItemsOf_ ht ?_)
  refine wpAny_bind (wpAny_typeOf hTs ?_)
  rw [if_pos (by decide)]
  refine wpAny_bind (sliceApplied_rev hs ps ?_)
  have hno : ¬ ((((items.size : Int) - 1) == 0 && (-1 : Int) == 1 && items.size == items.size) = true) := by
    intro q
    rw [Bool.and_eq_true, Bool.and_eq_true] at q
    exact absurd (eq_of_beq q.1.2) (by decide)
  show wpAny _ _ (if (((items.size : Int) - 1) == 0 && (-1 : Int) == 1 && items.size == items.size) = true then _ else _) _ _ s
  rw [if_neg hno, pick_rev]
  first
    | exact wpAny_bind (m := Builtin.Tuple.tupleExact _) (wpAny_newObj_type (wpAny_pure ⟨_, rfl, wpAny_pure h⟩) htake)
    | exact wpAny_bind (m := Builtin.Tuple.tupleExact _) (wpAny_newObj_type (wpAny_bind (wpAny_pure (wpAny_pure ⟨_, rfl, wpAny_pure h⟩))) htake)
    | exact wpAny_bind (wpAny_bind (m := Builtin.Tuple.tupleExact _) (wpAny_newObj_type (wpAny_pure (wpAny_pure ⟨_, rfl, wpAny_pure h⟩)) htake))
    | exact wpAny_bind (wpAny_bind (m := Builtin.Tuple.tupleExact _) (wpAny_newObj_type (wpAny_pure ⟨_, rfl, wpAny_pure h⟩) htake))
end
/-- t[::-1] -/
def tRevT (K : PySem.W.Frag) (te : TE) : TE := fun σ H Q => te σ H fun x H1 => ∃ a xs, x = .ref a ∧ SqT K H1 a xs ∧ ∀ p, H1 p = none → Q (.ref p) (upd H1 p (.tup xs.reverse))
theorem x_revT {K : PySem.W.Frag} {σ : L2.St} {H : Hp} {Q : VK} {te : TE} (h : te σ H fun x H1 => ∃ a xs, x = .ref a ∧ SqT K H1 a xs ∧ ∀ p, H1 p = none → Q (.ref p) (upd H1 p (.tup xs.reverse))) : tRevT K te σ H Q := h
section
variable {X : Cx}
theorem pe_revT {e : Expr} {te : TE} {k : Nat} {p1 p2 p3 pos : Pos} (he : PE X e te) : PE X (.Subscript e (.Slice none none (some (.UnaryOp .USub (.Constant (.int 1) k p1) p2)) p3) pos) (tRevT X.K te) := by
  refine ⟨fun pins s σ H Q I h => ?_⟩
  refine Subscript_ (thn (he.run pins s σ H _ I h) fun v s1 ⟨x, H1, I1, r1, q1⟩ => ?_)
  obtain ⟨a, xs, ex, hx, q⟩ := q1
  subst ex
  cases r1
  have hst : PO X (some (.UnaryOp .USub (.Constant (.int 1) k p1) p2)) (tPart (tUn (rU fun i => .int (-i)) (tC (.int 1)))) := po_some (pe_un un_neg pe_int)
  refine wpAny_Slice (thn (po_none.run pins s1 σ H1 (fun o H2 => o = none ∧ H2 = H1) I1 ⟨rfl, rfl⟩) fun vl s2 ⟨l, H2, I2, pl, el, e2⟩ => ?_)
  subst el e2
  refine thn (po_none.run pins s2 σ H2 (fun o H3 => o = none ∧ H3 = H2) I2 ⟨rfl, rfl⟩) fun vu s3 ⟨u, H3, I3, pu, eu, e3⟩ => ?_
  subst eu e3
  refine thn (hst.run pins s3 σ H3 (fun o H4 => o = some (-1) ∧ H4 = H3) I3 ⟨1, rfl, -1, rfl, rfl, rfl⟩) fun vs s4 ⟨o, H4, I4, ps, eo, e4⟩ => ?_
  subst eo e4
  cases pl
  cases pu
  have I5 : Inv X pins σ H4 { s4 with heap := s4.heap.push { cls := .type "slice", data := .fields #[.none, .none, vs] } } := I4.kept (t' := s4.toks) fun b ob q => Heap.get?_push_of_some _ q
  obtain ⟨its, r, ht, hz⟩ := I5.tuple hx
  have hlen := r.length
  show wpAny (model X.prog X.w) X.A (subscriptTail e (.Slice none none (some (.UnaryOp .USub (.Constant (.int 1) k p1) p2)) p3) (.ref a) (.ref s4.heap.objs.size)) (EP X pins σ Q) X.xe { s4 with heap := s4.heap.push { cls := .type "slice", data := .fields #[.none, .none, vs] } }
  refine tail_any (ops := [.ref a, .ref s4.heap.objs.size]) ht.typeIs (PyProof.Rows.slot_tuple_getitem.lookup) ?_ (by with_unfolding_all rfl)
  refine getItem_tuple_rev ht (Heap.IsSliceOf.new _ .none .none vs) ps ?_ (by rw [List.size_toArray]; omega)
  refine ⟨.ref _, _, I5.laid (t' := s4.toks) (o := .tup xs.reverse) (fun b ob q => Heap.get?_push_of_some _ q) (Nat.le_refl _) ?_, rfl, q _ (I5.hok.fresh (Nat.le_refl _))⟩
  exact ⟨by rw [List.length_reverse]; exact hz, _, r.reverse, IsTup.new _ _⟩
/-- sorted(d), d a dict of texts -/
def rSortD : List V → Hp → VK → Prop := fun xs H Q => ∃ (a : Addr) (kvs : List (Key × V)) (ks : List Str), xs = [.ref a] ∧ Rd H a (.dK kvs) ∧ kvs.map (·.1) = ks.map Sum.inr ∧ ks.length < 64 ∧ ∀ ys p, ys.Perm ks → sortedS ys = true → H p = none → Q (.ref p) (upd H p (.lst (ys.map V.str)))
theorem call_SORTD (hc : X.calm = true) : CallR X (.builtin "sorted") rSortD := call_sortedD hc
end
section
variable {K : PySem.W.Frag} {σ : L2.St} {H : Hp} {Q : VK} {td ty tv : TE} {n b k : L2.St → Hp → Prop} {rt : VK}
theorem s_dput (h : tv σ H fun v H1 => td σ H1 fun x H2 => ty σ H2 fun y H3 => ∃ a H4, x = .ref a ∧ DPut H3 a y v H4 ∧ n σ H4) : sDPut td ty tv ⟨n, rt, b, k⟩ σ H := h
theorem x_dget (h : td σ H fun x H1 => ty σ H1 fun y H2 => ∃ a v, x = .ref a ∧ DGet H2 a y (some v) ∧ Q v H2) : tDGet td ty σ H Q := h
theorem x_dnew (h : ∀ p, H p = none → Q (.ref p) (upd H p (.dK []))) : tDNewK σ H Q := h
end
end My

set_option Elab.async false
set_option linter.all false
set_option maxRecDepth 100000
set_option maxHeartbeats 1000000
/-! ### dicts: membership, walks, comprehensions; sorted by reverse; heaps with some objects left aside -/
namespace My
open PySem PySem.Spec PyProof.Rows L2
/-! #### two texts in their order -/
theorem txt_tri : ∀ {a b : List Nat}, ¬ b < a → a ≠ b → a < b
  | [], [], _, h2 => absurd rfl h2
  | [], _ :: _, _, _ => List.nil_lt_cons ..
  | _ :: _, [], h1, _ => absurd (List.nil_lt_cons ..) h1
  | x :: a, y :: b, h1, h2 => by
    rw [List.cons_lt_cons_iff] at h1 ⊢
    by_cases hxy : x = y
    · subst hxy
      exact .inr ⟨rfl, txt_tri (fun h => h1 (.inr ⟨rfl, h⟩)) (fun h => h2 (by rw [h]))⟩
    · exact .inl (by have : ¬ y < x := fun h => h1 (.inl h); omega)
theorem txt_irr : ∀ {a : List Nat}, ¬ a < a
  | [], h => by cases h
  | x :: a, h => by
    rw [List.cons_lt_cons_iff] at h
    rcases h with h | ⟨_, h⟩
    · exact absurd h (Nat.lt_irrefl x)
    · exact txt_irr h
theorem txt_trans : ∀ {a b c : List Nat}, a < b → b < c → a < c
  | _, _, [], _, h2 => by cases h2
  | [], _, z :: c, _, _ => List.nil_lt_cons ..
  | x :: a, [], _, h1, _ => by cases h1
  | x :: a, y :: b, z :: c, h1, h2 => by
    rw [List.cons_lt_cons_iff] at h1 h2 ⊢
    rcases h1 with h1 | ⟨rfl, h1⟩
    · rcases h2 with h2 | ⟨rfl, h2⟩
      · exact .inl (Nat.lt_trans h1 h2)
      · exact .inl h1
    · rcases h2 with h2 | ⟨rfl, h2⟩
      · exact .inl h2
      · exact .inr ⟨rfl, txt_trans h1 h2⟩
def svV : Value → List Nat
  | .str x _ => x.cps.toList
  | _ => []
def ltSv (v u : Value) : Bool := decide (svV v < svV u)
theorem swo_str : SrtO.Swo ltSv := by
  refine ⟨fun x y h => ?_, fun x y z h1 h2 => ?_⟩
  · have a := of_decide_eq_true (p := svV x < svV y) h
    exact decide_eq_false (p := svV y < svV x) fun b => txt_irr (txt_trans a b)
  · have a := of_decide_eq_false (p := svV y < svV x) h1
    have b := of_decide_eq_false (p := svV z < svV y) h2
    refine decide_eq_false (p := svV z < svV x) fun c => ?_
    by_cases e : svV x = svV y
    · exact b (by rw [← e]; exact c)
    · exact b (txt_trans c (txt_tri a e))
theorem strs_memV : ∀ {vs : List Value} {ns : List Str}, StrsAre vs ns → ∀ v ∈ vs, ∃ x t, v = Value.str x t
  | _, _, .nil, v, hv => by cases hv
  | _, _, .cons x t r, v, hv => by
    rcases List.mem_cons.mp hv with e | hv
    · exact ⟨x, t, e⟩
    · exact strs_memV r v hv
section
variable {prog : Program} {w : World} {A : Around} {E : Value → Shared → Prop} {s : Shared}
theorem str_cmp {vs : List Value} {ns : List Str} (hI : StrsAre vs ns) : SrtO.Cmp prog w A s oneType' (fun p => p.1 ∈ vs) (SrtO.lt2 ltSv) := by
  intro p q hm hm'
  obtain ⟨a, t, e⟩ := strs_memV hI _ hm
  obtain ⟨b, u, e'⟩ := strs_memV hI _ hm'
  show wpAny (model prog w) A (keyLt' oneType' p.1 q.1) (fun r s' => s' = s ∧ r = ltSv p.1 q.1) (fun _ _ => False) s
  rw [e, e', keyLt'_oneType]
  exact oneLt_str ⟨rfl, rfl⟩
theorem strs_sortable {a : Addr} {vs : List Value} {ns : List Str} (hI : StrsAre vs ns) (h2 : 2 ≤ vs.length) : SrtO.SortableO prog w A s a vs ltSv := by
  intro h' _
  refine ⟨oneType', fun Q E hq => ?_, str_cmp hI⟩
  match vs, hI, h2 with
  | v1 :: v2 :: rest, hI, _ =>
    rw [keyKind_strs hI]
    exact wpAny_pure hq
  | [], _, h => exact absurd h (by decide)
  | [v], _, h => exact absurd h (by simp)
end
theorem strs_perm {vs out : List Value} {ks : List Str} (hI : StrsAre vs ks) (h : out.Perm vs) : ∃ ys : List Str, StrsAre out ys ∧ ys.Perm ks := by
  have f : ∀ {us : List Value}, (∀ u ∈ us, ∃ x t, u = Value.str x t) → StrsAre us (us.map fun u => match u with | .str x _ => x | _ => Str.empty) := by
    intro us
    induction us with
    | nil => intro _; exact .nil
    | cons u us ih =>
      intro hu
      obtain ⟨x, t, rfl⟩ := hu u (List.mem_cons_self ..)
      exact .cons x t (ih fun v hv => hu v (List.mem_cons_of_mem _ hv))
  have g : ∀ {us : List Value} {xs : List Str}, StrsAre us xs → (us.map fun u => match u with | .str x _ => x | _ => Str.empty) = xs := by
    intro us xs r
    induction r with
    | nil => rfl
    | cons x t r ih => exact congrArg (x :: ·) ih
  refine ⟨_, f fun v hv => strs_memV hI v (h.mem_iff.mp hv), ?_⟩
  have := h.map (fun u : Value => match u with | .str x _ => x | _ => Str.empty)
  rw [g hI] at this
  exact this
/-- sorted(d, reverse=b) of a dict of texts: some row of its keys -/
def rSortDR : List V → List V → Hp → VK → Prop := fun xs zs H Q => ∃ (a : Addr) (kvs : List (Key × V)) (ks : List Str) (b : Bool), xs = [.ref a] ∧ zs = [.bl b] ∧ Rd H a (.dK kvs) ∧ kvs.map (·.1) = ks.map Sum.inr ∧ ks.length < 64 ∧
    ∀ (ys : List Str) (p : Addr), ys.Perm ks → H p = none → Q (.ref p) (upd H p (.lst (ys.map V.str)))
section
variable {X : Cx}
theorem call_SORTDR (hcalm : X.calm = true) : CallRK X (.builtin "sorted") [Str.ofString "reverse"] rSortDR := by
  intro pins s σ H xs zs us ws Q I r rz q
  obtain ⟨a, kvs, ks, b, ex, rfl, hd, hks, h64, q⟩ := q
  subst ex
  obtain ⟨u, eu, rx⟩ := vals1 r
  subst eu
  cases rx
  obtain ⟨w1, rfl, e1⟩ := vals1 rz
  obtain rfl : w1 = Value.bool b := e1
  obtain ⟨z, lo, vs, rel, dd⟩ := dk_rd I.hok hd
  obtain ⟨ep, hat⟩ := dd.dictAt
  have hkeys : vs.map (·.1) = ks.map Sum.inr := rel.keys.symm.trans hks
  have hl : vs.length = ks.length := by
    have e := congrArg List.length hkeys
    rw [List.length_map, List.length_map] at e
    exact e
  have h16 : vs.length ≤ sizeLine := by rw [hl, sizeLine_eq]; omega
  show wpAny _ _ (call (.builtin "sorted") [.ref a] [(Str.ofString "reverse", .bool b)]) _ _ _
  refine call_function_entry_kw kind_sorted plain_sorted entry_sorted (PyProof.Rows.args_sorted_rev _ _) ?_
  unfold Builtin.«sorted»
  refine wpAny_bind (m := checkCount "sorted" 1 1 _) (wpAny_pure ?_)
  refine wpAny_bind (PySem.W.kdu_collect (A := X.A.in1) (PySem.W.kdl_dict (knd := mixKind X.prog X.w) (kvs := vs) (ep := ep) lo) (I.ok.hd hcalm) hat h16 fun h' tk acc hk hacc => ?_)
  have hal : acc.toList.length = ks.length := by rw [Array.length_toList, hacc.1, hl]
  have hS : StrsAre acc.toList ks := strs_at hal fun j v e => by
    obtain ⟨k, x, e1, e2⟩ := hacc.2 j v (by rw [← Array.getElem?_toList]; exact e)
    have e3 : (vs.map (·.1))[j]? = some k := by rw [List.getElem?_map, e1]; all_goals rfl
    rw [hkeys, List.getElem?_map] at e3
    cases e4 : ks[j]? with
    | none => rw [e4] at e3; cases e3
    | some y =>
      rw [e4] at e3
      have e5 : Sum.inr y = k := Option.some.inj e3
      subst e5
      obtain ⟨t, ev⟩ := Value.isStrOf_shape (x := y) (v := v) e2
      exact ⟨y, t, rfl, ev⟩
  have I1 : Inv X pins σ H { s with heap := h', toks := tk } := I.kept hk
  refine wpAny_bind (wpAny_newList ?_ (by rw [hal, sizeLine_eq]; omega))
  have hoL : (h'.push (seqObj "list" acc.toList.toArray 0)).get? h'.objs.size = some (seqObj "list" acc.toList.toArray 0) := Heap.get?_push_size _ rfl
  show wpAny _ _ _ _ _ { s with heap := h'.push (seqObj "list" acc.toList.toArray 0), toks := tk }
  have hz : acc.toList.length ≤ sizeLine := by rw [hal, sizeLine_eq]; omega
  refine wpAny_bind (wpAny_holding (wpAny_call_entry_kw slot_list_sort ⟨_, hoL, rfl⟩ entry_list_sort ?_ (PyProof.Rows.args_list_sort_rev _ _)))
  refine SrtR.list_sort_ordR (s := { s with heap := h'.push (seqObj "list" acc.toList.toArray 0), toks := tk }) swo_str hoL hz (fun h2 => strs_sortable hS h2) fun out hs hb => ⟨_, rfl, ?_⟩
  have hp2 : (if b = true then out.toArray.reverse else out.toArray).toList.Perm acc.toList := by
    cases b with
    | true =>
      show (out.toArray.reverse).toList.Perm _
      rw [Array.toList_reverse]
      exact ((List.reverse_perm _).trans (show out.Perm acc.toList.reverse from hb.perm)).trans (List.reverse_perm _)
    | false => exact hb.perm
  obtain ⟨ys, g1, g2⟩ := strs_perm hS hp2
  obtain ⟨e', he'⟩ := PyProof.Rows.sortedHeap_at (vs := acc.toList) (out := (if b = true then out.toArray.reverse else out.toArray)) hoL
  have hlen : (ys.map V.str).length ≤ sizeLine := by
    rw [List.length_map, g2.length_eq]
    exact Nat.le_trans (Nat.le_of_lt h64) (by decide)
  refine wpAny_pure ⟨_, rfl, .ref h'.objs.size, upd H h'.objs.size (.lst (ys.map V.str)), I1.laid (t' := tk) (fun b u e => ?_) (Nat.le_refl _)
    (show ObjOk X.prog X.w _ _ _ (.lst (ys.map V.str)) from ⟨hlen, (if b = true then out.toArray.reverse else out.toArray).toList, e', vals_of_strs g1, by rw [Array.toArray_toList]; exact he'⟩), rfl, q ys _ g2 (I1.hok.fresh (Nat.le_refl _))⟩
  have hb : b < h'.objs.size := Heap.lt_size e
  rw [PyProof.Rows.sortedHeap_old (Nat.ne_of_lt hb) (by rw [size_push']; exact Nat.lt_succ_of_lt hb)]
  exact Heap.get?_push_of_some _ e
end
/-! #### readings -/
section
variable {K : PySem.W.Frag} {σ : L2.St} {H : Hp} {Q : VK} {td ty te : TE} {g : TG} {tt : TT} {ws : List Nat}
theorem x_din (h : ty σ H fun y H1 => td σ H1 fun x H2 => ∃ a o, x = .ref a ∧ DGet H2 a y o ∧ Q (.bl o.isSome) H2) : tDIn ty td σ H Q := h
theorem x_dnotin (h : ty σ H fun y H1 => td σ H1 fun x H2 => ∃ a o, x = .ref a ∧ DGet H2 a y o ∧ Q (.bl (!o.isSome)) H2) : tDNotIn ty td σ H Q := h
theorem x_lockE {t : TE} {d : Addr} {u : HO} (hd : H d = some u) (hm : Mut (some u)) (h : ∀ od, t σ (upd H d (.frz od u)) fun v H' => H' d = some (.frz od u) ∧ Q v (upd H' d u)) : tLockE t σ H Q := ⟨d, u, hd, hm, h⟩
theorem lcK_mk {i : Nat} {d : Addr} {o : Obj} {kvs : List (Key × V)} (hi : σ[i]? = some (some (.ref d))) (hk : H d = some (.frz o (.dK kvs))) (Pv : Addr → Nat → Hp → Prop) (h0 : ∀ D, H D = none → Pv D 0 (upd H D (.lst [])))
    (hl : ∀ D i H', H D = none → Pv D i H' → H' d = some (.frz o (.dK kvs)))
    (hs : ∀ D i k v H', H D = none → kvs[i]? = some (k, v) → Pv D i H' → g (kV k) (wipe σ ws) H' fun σ2 H2 => wipe σ2 ws = wipe σ ws ∧ tt σ2 H2 fun b H3 => if b = true then te σ2 H3 fun y H4 => ∃ acc, H4 D = some (.lst acc) ∧ acc.length < sizeLine ∧ Pv D (i + 1) (upd H4 D (.lst (acc ++ [y]))) else Pv D (i + 1) H3)
    (hd : ∀ D H', H D = none → Pv D kvs.length H' → Q (.ref D) H') : tLc (iKeys (tVar i)) g tt te ws σ H Q := by
  refine ⟨.ref d, hi, d, o, rfl, .inl ⟨kvs, hk, fun D hD => ⟨fun i m H' => m = kvs.length - i ∧ i ≤ kvs.length ∧ Pv D i H', ⟨kvs.length, by simp, Nat.zero_le _, h0 D hD⟩, ?_⟩⟩⟩
  rintro i m H' ⟨rfl, hi, p⟩
  have q := hl D i H' hD p
  by_cases hlt : i < kvs.length
  · refine .inr ⟨⟨q, hlt⟩, Pv D (i + 1), fun H2 p' => ⟨kvs.length - (i + 1), by omega, rfl, hlt, p'⟩, fun x H2 y => ?_⟩
    obtain ⟨rfl, k, v, e, rfl⟩ := y
    exact hs D i k v _ hD e p
  · have e : i = kvs.length := by omega
    subst e
    exact .inl ⟨⟨q, Nat.le_refl _⟩, hd D H' hD p⟩
/-- a dict comprehension over a tuple or a list -/
theorem dcT_mk {tk tv : TE} {a : Addr} {xs : List V} (hm : ∀ R : V → Hp → Prop, R (.ref a) H → td σ H R) (hx : SqT K H a xs) (Pv : Addr → Nat → Hp → Prop) (h0 : ∀ D, H D = none → Pv D 0 (upd H D (.dK [])))
    (hl : ∀ D i H', H D = none → Pv D i H' → SqT K H' a xs)
    (hs : ∀ D i x H', H D = none → xs[i]? = some x → Pv D i H' → g x (wipe σ ws) H' fun σ2 H2 => wipe σ2 ws = wipe σ ws ∧ tt σ2 H2 fun b H3 => if b = true then tk σ2 H3 fun y H4 => tv σ2 H4 fun z H5 => ∃ kvs k, y = kV k ∧ H5 D = some (.dK kvs) ∧ kvs.length < sizeLine ∧ Pv D (i + 1) (upd H5 D (.dK (putK kvs k z))) else Pv D (i + 1) H3)
    (hd : ∀ D H', H D = none → Pv D xs.length H' → Q (.ref D) H') : tDc (iTup K td) g tt tk tv ws σ H Q := by
  refine hm _ ⟨a, rfl, ⟨xs, hx⟩, fun D hD => ⟨fun i m H' => m = xs.length - i ∧ i ≤ xs.length ∧ Pv D i H', ⟨xs.length, by simp, Nat.zero_le _, h0 D hD⟩, ?_⟩⟩
  rintro i m H' ⟨rfl, hi, p⟩
  have q := hl D i H' hD p
  by_cases hlt : i < xs.length
  · refine .inr ⟨⟨xs, xs[i], q, by simp [hlt]⟩, Pv D (i + 1), fun H2 p' => ⟨xs.length - (i + 1), by omega, rfl, hlt, p'⟩, fun x H2 y => ?_⟩
    obtain ⟨e, y⟩ := y
    subst e
    exact hs D i x _ hD (y xs q) p
  · have e : i = xs.length := by omega
    subst e
    exact .inl ⟨⟨xs, q, Nat.le_refl _⟩, hd D H' hD p⟩
theorem le_ss {i j : Str} (h : Q (.bl (!decide (j.cps.toList < i.cps.toList))) H) : rLE (.str i) (.str j) H Q := .inr ⟨i, j, rfl, rfl, h⟩
theorem any_b {p : Addr} {bs : List Bool} (hs : SqL K H p (bs.map V.bl)) (h : Q (.bl (bs.any id)) H) : rAny K [.ref p] H Q := ⟨p, bs, rfl, hs, h⟩
end
/-! #### a walk over a dict's keys, under its lock -/
section
variable {σ : L2.St} {H : Hp} {n b k : L2.St → Hp → Prop} {rt : VK} {g : TG} {p : TS}
theorem forK_mk {i : Nat} {d : Addr} {kvs : List (Key × V)} (hi : σ[i]? = some (some (.ref d))) (hd : H d = some (.dK kvs)) (Pv : Obj → Nat → L2.St → Hp → Prop) (h0 : ∀ o, Pv o 0 σ (upd H d (.frz o (.dK kvs)))) (hl : ∀ o i σ H', Pv o i σ H' → H' d = some (.frz o (.dK kvs)))
    (hs : ∀ o i k' v σ H', kvs[i]? = some (k', v) → Pv o i σ H' → g (kV k') σ H' fun σ2 H2 => p ⟨Pv o (i + 1), fun x H' => H' d = some (.frz o (.dK kvs)) ∧ rt x (upd H' d (.dK kvs)), fun σ' H' => H' d = some (.frz o (.dK kvs)) ∧ n σ' (upd H' d (.dK kvs)), Pv o (i + 1)⟩ σ2 H2)
    (he : ∀ o σ H', Pv o kvs.length σ H' → n σ (upd H' d (.dK kvs))) : tLock (tFor (iKeys (tVar i)) g p) ⟨n, rt, b, k⟩ σ H := by
  refine ⟨d, .dK kvs, hd, True.intro, fun o => ?_⟩
  refine ⟨.ref d, hi, d, o, rfl, .inl ⟨kvs, upd_same, ?_⟩⟩
  refine ⟨fun i m σ' H' => m = kvs.length - i ∧ i ≤ kvs.length ∧ Pv o i σ' H', ⟨kvs.length, by simp, Nat.zero_le _, h0 o⟩, ?_⟩
  rintro i m σ' H' ⟨rfl, hi, pv⟩
  have q := hl o i σ' H' pv
  by_cases hlt : i < kvs.length
  · refine .inr ⟨⟨q, hlt⟩, Pv o (i + 1), fun σ2 H2 p' => ⟨kvs.length - (i + 1), by omega, rfl, hlt, p'⟩, fun x H2 y => ?_⟩
    obtain ⟨rfl, k', v, e, rfl⟩ := y
    exact hs o i k' v σ' _ e pv
  · have e : i = kvs.length := by omega
    subst e
    exact .inl ⟨⟨q, Nat.le_refl _⟩, q, he o σ' H' pv⟩
end
/-! #### a heap with some objects left aside -/
def ms (L : List Addr) (H : Hp) : Hp := fun x => if x ∈ L then none else H x
section
variable {K : PySem.W.Frag} {L : List Addr} {H H' : Hp}
theorem ms_le : Same (ms L H) H := fun x o h => by
  unfold ms at h
  by_cases e : x ∈ L
  · rw [if_pos e] at h; cases h
  · rwa [if_neg e] at h
theorem ms_at {x : Addr} {o : HO} (e : x ∉ L) (h : H x = some o) : ms L H x = some o := by
  unfold ms
  rw [if_neg e]
  exact h
theorem ms_out {x : Addr} {o : HO} (h : ms L H x = some o) : x ∉ L := fun e => by
  unfold ms at h
  rw [if_pos e] at h
  cases h
theorem ms_mono (h : ∀ x o, x ∉ L → H x = some o → H' x = some o) : Same (ms L H) (ms L H') := fun x o e => ms_at (ms_out e) (h x o (ms_out e) (ms_le _ _ e))
theorem ms_same (h : Same H H') : Same (ms L H) (ms L H') := ms_mono fun x o _ e => h x o e
theorem ms_new {p : Addr} {o : HO} (h : H p = none) : Same (ms L H) (ms L (upd H p o)) := ms_same (same_upd h)
theorem ms_upd {p : Addr} {o : HO} (h : p ∈ L) : Same (ms L H) (ms L (upd H p o)) := ms_mono fun x u hx e => by
  rw [upd_ne (fun z => hx (by rw [z]; exact h))]
  exact e
theorem ms_frm {s g : Addr} (hs : s ∈ L) (hg : g ∈ L) (h : Frm s g H H') : Same (ms L H) (ms L H') := ms_mono fun x o hx e => h x o (fun z => hx (z ▸ hs)) (fun z => hx (z ▸ hg)) e
/-- what is in the list is no tuple -/
def NoT : HO → Prop
  | .tup _ => False
  | .frz _ (.tup _) => False
  | _ => True
def NoL : HO → Prop
  | .lst _ => False
  | .frz _ (.lst _) => False
  | _ => True
theorem ms_sqt {a : Addr} {xs : List V} (hL : ∀ x ∈ L, ∀ o, H x = some o → NoT o) (h : SqT K H a xs) : SqT K (ms L H) a xs := by
  have off : ∀ o, H a = some o → ¬ NoT o → a ∉ L := fun o e z y => z (hL a y o e)
  rcases h with (h | ⟨o, h⟩) | h
  · exact .inl (.inl (ms_at (off _ h fun z => z) h))
  · exact .inl (.inr ⟨o, ms_at (off _ h fun z => z) h⟩)
  · exact .inr h
mutual
/-- data without lists and dicts -/
def tupD : PyData → Bool
  | .tuple ds => tupDs ds
  | .list _ => false
  | .dict _ => false
  | _ => true
def tupDs : List PyData → Bool
  | [] => true
  | d :: ds => tupD d && tupDs ds
end
mutual
theorem ms_dp (hL : ∀ x ∈ L, ∀ o, H x = some o → NoT o) : ∀ (d : PyData) (v : V), tupD d = true → Dp K H v d → Dp K (ms L H) v d
  | _, _, _, .non => .non
  | _, _, _, .bl b => .bl b
  | _, _, _, .int i => .int i
  | _, _, _, .str x => .str x
  | .list ds, _, z, .lst h a => by rw [tupD] at z; cases z
  | .tuple ds, _, z, .tup h a => .tup (ms_sqt hL h) (ms_dps hL ds _ (by rw [tupD] at z; exact z) a)
theorem ms_dps (hL : ∀ x ∈ L, ∀ o, H x = some o → NoT o) : ∀ (ds : List PyData) (vs : List V), tupDs ds = true → DpAll K H vs ds → DpAll K (ms L H) vs ds
  | _, _, _, .nil => .nil
  | d :: ds, v :: vs, z, .cons h t => by
    rw [tupDs, Bool.and_eq_true] at z
    exact .cons (ms_dp hL d v z.1 h) (ms_dps hL ds vs z.2 t)
end
theorem tupDs_of : ∀ {ds : List PyData}, (∀ d ∈ ds, tupD d = true) → tupDs ds = true
  | [], _ => by rw [tupDs]
  | d :: ds, h => by rw [tupDs, h d (List.mem_cons_self ..), tupDs_of fun e he => h e (List.mem_cons_of_mem _ he)]; rfl
/-- data that stands in a part of the heap stands in the whole -/
theorem ms_un {d : PyData} {v : V} (h : Dp K (ms L H) v d) : Dp K H v d := dp_mono ms_le _ _ h
end
end My

set_option Elab.async false
set_option linter.all false
set_option maxRecDepth 100000
set_option maxHeartbeats 4000000
namespace My
open PySem PySem.Spec PyProof.Rows L2
/-! ### the text -/
def topS (i : Nat) : Stmt := PySem.Challenge.pw_heldpasts_k71_letters_and_texts.main.body.getD i (.Pass ⟨0, 0, 0, 0⟩)
abbrev s_is_text : Stmt := topS 5
theorem sc_is_text : FnScope ["value"] ["value"] (defScope s_is_text) := ⟨rfl, rfl, rfl, by decide +kernel, rfl, by decide +kernel, by decide +kernel⟩
-- is_text: 0 value
abbrev s_number_at : Stmt := topS 6
theorem sc_number_at : FnScope ["text", "at", "size", "word"] ["text", "at", "size"] (defScope s_number_at) := ⟨rfl, rfl, rfl, by decide +kernel, rfl, by decide +kernel, by decide +kernel⟩
-- number_at: 0 text, 1 at, 2 size, 3 word
abbrev s_is_changes : Stmt := topS 8
theorem sc_is_changes : FnScope ["value", "change", "keys", "key", "_", "one", "other"] ["value"] (defScope s_is_changes) := ⟨rfl, rfl, rfl, by decide +kernel, rfl, by decide +kernel, by decide +kernel⟩
-- is_changes: 0 value, 1 change, 2 keys, 3 key, 4 _, 5 one, 6 other
abbrev s_is_change : Stmt := topS 9
theorem sc_is_change : FnScope ["value"] ["value"] (defScope s_is_change) := ⟨rfl, rfl, rfl, by decide +kernel, rfl, by decide +kernel, by decide +kernel⟩
-- is_change: 0 value
abbrev s_is_entries : Stmt := topS 10
theorem sc_is_entries : FnScope ["value", "_", "text"] ["value"] (defScope s_is_entries) := ⟨rfl, rfl, rfl, by decide +kernel, rfl, by decide +kernel, by decide +kernel⟩
-- is_entries: 0 value, 1 _, 2 text
abbrev s_change_text : Stmt := topS 11
theorem sc_change_text : FnScope ["change", "key", "value"] ["change"] (defScope s_change_text) := ⟨rfl, rfl, rfl, by decide +kernel, rfl, by decide +kernel, by decide +kernel⟩
-- change_text: 0 change, 1 key, 2 value
abbrev s_changes_told : Stmt := topS 12
theorem sc_changes_told : FnScope ["text", "at", "found", "told", "change"] ["text", "at"] (defScope s_changes_told) := ⟨rfl, rfl, rfl, by decide +kernel, rfl, by decide +kernel, by decide +kernel⟩
-- changes_told: 0 text, 1 at, 2 found, 3 told, 4 change
abbrev s_change_from : Stmt := topS 13
theorem sc_change_from : FnScope ["text", "at", "key", "end", "value"] ["text", "at"] (defScope s_change_from) := ⟨rfl, rfl, rfl, by decide +kernel, rfl, by decide +kernel, by decide +kernel⟩
-- change_from: 0 text, 1 at, 2 key, 3 end, 4 value
abbrev s_part_from : Stmt := topS 14
theorem sc_part_from : FnScope ["text", "at", "size", "end"] ["text", "at"] (defScope s_part_from) := ⟨rfl, rfl, rfl, by decide +kernel, rfl, by decide +kernel, by decide +kernel⟩
-- part_from: 0 text, 1 at, 2 size, 3 end
abbrev s_is_number : Stmt := topS 16
theorem sc_is_number : FnScope ["value", "low", "high"] ["value", "low", "high"] (defScope s_is_number) := ⟨rfl, rfl, rfl, by decide +kernel, rfl, by decide +kernel, by decide +kernel⟩
-- is_number: 0 value, 1 low, 2 high
abbrev s_check_text : Stmt := topS 17
theorem sc_check_text : FnScope ["text"] ["text"] (defScope s_check_text) := ⟨rfl, rfl, rfl, by decide +kernel, rfl, by decide +kernel, by decide +kernel⟩
-- check_text: 0 text
abbrev s_is_letter : Stmt := topS 22
theorem sc_is_letter : FnScope ["value", "number", "index", "pieces", "entries"] ["value"] (defScope s_is_letter) := ⟨rfl, rfl, rfl, by decide +kernel, rfl, by decide +kernel, by decide +kernel⟩
-- is_letter: 0 value, 1 number, 2 index, 3 pieces, 4 entries
abbrev s_are_lines : Stmt := topS 23
theorem sc_are_lines : FnScope ["rows", "are_right", "row", "text"] ["rows", "are_right"] (defScope s_are_lines) := ⟨rfl, rfl, rfl, by decide +kernel, rfl, by decide +kernel, by decide +kernel⟩
-- are_lines: 0 rows, 1 are_right, 2 row, 3 text
abbrev s_check_letter : Stmt := topS 24
theorem sc_check_letter : FnScope ["letter"] ["letter"] (defScope s_check_letter) := ⟨rfl, rfl, rfl, by decide +kernel, rfl, by decide +kernel, by decide +kernel⟩
-- check_letter: 0 letter
abbrev s_letter_text : Stmt := topS 25
theorem sc_letter_text : FnScope ["letter", "rows", "row"] ["letter"] (defScope s_letter_text) := ⟨rfl, rfl, rfl, by decide +kernel, rfl, by decide +kernel, by decide +kernel⟩
-- letter_text: 0 letter, 1 rows, 2 row
abbrev s_letter_told : Stmt := topS 26
theorem sc_letter_told : FnScope ["text", "letter"] ["text"] (defScope s_letter_told) := ⟨rfl, rfl, rfl, by decide +kernel, rfl, by decide +kernel, by decide +kernel⟩
-- letter_told: 0 text, 1 letter
abbrev s_letter_from : Stmt := topS 27
theorem sc_letter_from : FnScope ["text"] ["text"] (defScope s_letter_from) := ⟨rfl, rfl, rfl, by decide +kernel, rfl, by decide +kernel, by decide +kernel⟩
-- letter_from: 0 text
abbrev s__law_well : Stmt := topS 29
theorem sc__law_well : FnScope ["_law_cell", "_law_number_here"] ["_law_cell"] (defScope s__law_well) := ⟨rfl, rfl, rfl, by decide +kernel, rfl, by decide +kernel, by decide +kernel⟩
-- _law_well: 0 _law_cell, 1 _law_number_here
abbrev s__law_draw : Stmt := topS 30
theorem sc__law_draw : FnScope ["_law_well_here", "_law_many", "_law_full"] ["_law_well_here", "_law_many"] (defScope s__law_draw) := ⟨rfl, rfl, rfl, by decide +kernel, rfl, by decide +kernel, by decide +kernel⟩
-- _law_draw: 0 _law_well_here, 1 _law_many, 2 _law_full
abbrev s__law_same : Stmt := topS 31
theorem sc__law_same : FnScope ["_law_found", "_law_due", "_law_k"] ["_law_found", "_law_due"] (defScope s__law_same) := ⟨rfl, rfl, rfl, by decide +kernel, rfl, by decide +kernel, by decide +kernel⟩
-- _law_same: 0 _law_found*, 1 _law_due*, 2 _law_k
abbrev s__law_sign : Stmt := topS 32
theorem sc__law_sign : FnScope ["_law_well_here", "_law_some"] ["_law_well_here"] (defScope s__law_sign) := ⟨rfl, rfl, rfl, by decide +kernel, rfl, by decide +kernel, by decide +kernel⟩
-- _law_sign: 0 _law_well_here, 1 _law_some
abbrev s__law_text : Stmt := topS 33
theorem sc__law_text : FnScope ["_law_well_here", "_law_most", "_law_k"] ["_law_well_here", "_law_most"] (defScope s__law_text) := ⟨rfl, rfl, rfl, by decide +kernel, rfl, by decide +kernel, by decide +kernel⟩
-- _law_text: 0 _law_well_here*, 1 _law_most, 2 _law_k
abbrev s__law_changes : Stmt := topS 34
theorem sc__law_changes : FnScope ["_law_well_here", "_law_least", "_law_most", "_law_found", "_law_front", "_law_k", "_law_key"] ["_law_well_here", "_law_least", "_law_most"] (defScope s__law_changes) := ⟨rfl, rfl, rfl, by decide +kernel, rfl, by decide +kernel, by decide +kernel⟩
-- _law_changes: 0 _law_well_here, 1 _law_least, 2 _law_most, 3 _law_found*, 4 _law_front, 5 _law_k, 6 _law_key
abbrev s__law_rows : Stmt := topS 35
theorem sc__law_rows : FnScope ["_law_changes_here", "_law_found", "_law_key", "_law_value"] ["_law_changes_here"] (defScope s__law_rows) := ⟨rfl, rfl, rfl, by decide +kernel, rfl, by decide +kernel, by decide +kernel⟩
-- _law_rows: 0 _law_changes_here, 1 _law_found, 2 _law_key, 3 _law_value
abbrev s__law_number : Stmt := topS 36
theorem sc__law_number : FnScope ["_law_text_here", "_law_at", "_law_many", "_law_part", "_law_sign_here"] ["_law_text_here", "_law_at", "_law_many"] (defScope s__law_number) := ⟨rfl, rfl, rfl, by decide +kernel, rfl, by decide +kernel, by decide +kernel⟩
-- _law_number: 0 _law_text_here, 1 _law_at, 2 _law_many, 3 _law_part, 4 _law_sign_here
abbrev s__law_read_rows : Stmt := topS 37
theorem sc__law_read_rows : FnScope ["_law_text_here", "_law_found", "_law_at", "_law_long", "_law_key", "_law_value", "_law_behind", "_law_more"] ["_law_text_here"] (defScope s__law_read_rows) := ⟨rfl, rfl, rfl, by decide +kernel, rfl, by decide +kernel, by decide +kernel⟩
-- _law_read_rows: 0 _law_text_here, 1 _law_found, 2 _law_at, 3 _law_long, 4 _law_key, 5 _law_value, 6 _law_behind, 7 _law_more
abbrev s__law_digits : Stmt := topS 38
theorem sc__law_digits : FnScope ["_law_number_here", "_law_many"] ["_law_number_here", "_law_many"] (defScope s__law_digits) := ⟨rfl, rfl, rfl, by decide +kernel, rfl, by decide +kernel, by decide +kernel⟩
-- _law_digits: 0 _law_number_here, 1 _law_many
abbrev s__law_written : Stmt := topS 39
theorem sc__law_written : FnScope ["_law_letter_here", "_law_rows_here"] ["_law_letter_here"] (defScope s__law_written) := ⟨rfl, rfl, rfl, by decide +kernel, rfl, by decide +kernel, by decide +kernel⟩
-- _law_written: 0 _law_letter_here, 1 _law_rows_here
abbrev s__law_read : Stmt := topS 40
theorem sc__law_read : FnScope ["_law_text_here", "_law_number_here", "_law_rows_here", "_law_index", "_law_pieces", "_law_key", "_law_value"] ["_law_text_here"] (defScope s__law_read) := ⟨rfl, rfl, rfl, by decide +kernel, rfl, by decide +kernel, by decide +kernel⟩
-- _law_read: 0 _law_text_here, 1 _law_number_here, 2 _law_rows_here, 3 _law_index, 4 _law_pieces, 5 _law_key, 6 _law_value
abbrev s__law_letter : Stmt := topS 41
theorem sc__law_letter : FnScope ["_law_well_here", "_law_number_here", "_law_changes_here", "_law_way", "_law_pieces", "_law_index", "_law_entries", "_law_key", "_law_value"] ["_law_well_here"] (defScope s__law_letter) := ⟨rfl, rfl, rfl, by decide +kernel, rfl, by decide +kernel, by decide +kernel⟩
-- _law_letter: 0 _law_well_here, 1 _law_number_here, 2 _law_changes_here, 3 _law_way, 4 _law_pieces, 5 _law_index, 6 _law_entries, 7 _law_key, 8 _law_value
abbrev s__law_no_rows : Stmt := topS 42
theorem sc__law_no_rows : FnScope ["_law_well_here", "_law_some"] ["_law_well_here"] (defScope s__law_no_rows) := ⟨rfl, rfl, rfl, by decide +kernel, rfl, by decide +kernel, by decide +kernel⟩
-- _law_no_rows: 0 _law_well_here, 1 _law_some
abbrev s__law_bent : Stmt := topS 43
theorem sc__law_bent : FnScope ["_law_well_here", "_law_letter_here", "_law_far", "_law_at", "_law_bad"] ["_law_well_here", "_law_letter_here"] (defScope s__law_bent) := ⟨rfl, rfl, rfl, by decide +kernel, rfl, by decide +kernel, by decide +kernel⟩
-- _law_bent: 0 _law_well_here, 1 _law_letter_here, 2 _law_far, 3 _law_at, 4 _law_bad
abbrev s__law_spoilt : Stmt := topS 44
theorem sc__law_spoilt : FnScope ["_law_well_here", "_law_text_here", "_law_at", "_law_sign_here", "_law_some", "_law_drawn", "_law_k"] ["_law_well_here", "_law_text_here"] (defScope s__law_spoilt) := ⟨rfl, rfl, rfl, by decide +kernel, rfl, by decide +kernel, by decide +kernel⟩
-- _law_spoilt: 0 _law_well_here*, 1 _law_text_here, 2 _law_at, 3 _law_sign_here, 4 _law_some, 5 _law_drawn, 6 _law_k
abbrev s__law_told : Stmt := topS 45
theorem sc__law_told : FnScope ["_law_text_here", "_law_found"] ["_law_text_here"] (defScope s__law_told) := ⟨rfl, rfl, rfl, by decide +kernel, rfl, by decide +kernel, by decide +kernel⟩
-- _law_told: 0 _law_text_here, 1 _law_found
abbrev s__law_no_text : Stmt := topS 46
theorem sc__law_no_text : FnScope ["_law_value", "_law_word"] ["_law_value"] (defScope s__law_no_text) := ⟨rfl, rfl, rfl, by decide +kernel, rfl, by decide +kernel, by decide +kernel⟩
-- _law_no_text: 0 _law_value, 1 _law_word
abbrev s__law_no_letter : Stmt := topS 47
theorem sc__law_no_letter : FnScope ["_law_value", "_law_word"] ["_law_value"] (defScope s__law_no_letter) := ⟨rfl, rfl, rfl, by decide +kernel, rfl, by decide +kernel, by decide +kernel⟩
-- _law_no_letter: 0 _law_value, 1 _law_word
abbrev s_law : Stmt := topS 48
theorem sc_law : FnScope ["_law_script", "_law_cell", "_law_well_here", "_law_letter_here", "_law_text_here", "_law_turn", "_law_bent_here", "_law_spoilt_here"] ["_law_script"] (defScope s_law) := ⟨rfl, rfl, rfl, by decide +kernel, rfl, by decide +kernel, by decide +kernel⟩
-- law: 0 _law_script, 1 _law_cell, 2 _law_well_here, 3 _law_letter_here, 4 _law_text_here, 5 _law_turn, 6 _law_bent_here, 7 _law_spoilt_here
/-! ### the facts -/
def g_kb_is_letter_0 : List Value → List Value → List Value
  | [], [y0] => [y0]
  | _, _ => []
def gV_kb_is_letter_0 : List V → List V → List V
  | [], [y0] => [y0]
  | _, _ => []
def g_kb_letter_text_0 : List Value → List Value → List Value
  | [], [y0] => [y0]
  | _, _ => []
def gV_kb_letter_text_0 : List V → List V → List V
  | [], [y0] => [y0]
  | _, _ => []
def g_kb_letter_told_0 : List Value → List Value → List Value
  | [], [y0] => [y0]
  | _, _ => []
def gV_kb_letter_told_0 : List V → List V → List V
  | [], [y0] => [y0]
  | _, _ => []
structure Fx (K : PySem.W.Frag) (mg : Str → Option Value) where
  a_is_text : Addr
  fd_is_text : FuncData
  F_is_text : Fun K "is_text" "is_text" s_is_text a_is_text fd_is_text
  g_is_text : mg "is_text" = some (.ref a_is_text)
  b_is_text : Binds K fd_is_text ["value"] []
  a_number_at : Addr
  fd_number_at : FuncData
  F_number_at : Fun K "number_at" "number_at" s_number_at a_number_at fd_number_at
  g_number_at : mg "number_at" = some (.ref a_number_at)
  b_number_at : Binds K fd_number_at ["text", "at", "size"] []
  a_is_changes : Addr
  fd_is_changes : FuncData
  F_is_changes : Fun K "is_changes" "is_changes" s_is_changes a_is_changes fd_is_changes
  g_is_changes : mg "is_changes" = some (.ref a_is_changes)
  b_is_changes : Binds K fd_is_changes ["value"] []
  a_is_change : Addr
  fd_is_change : FuncData
  F_is_change : Fun K "is_change" "is_change" s_is_change a_is_change fd_is_change
  g_is_change : mg "is_change" = some (.ref a_is_change)
  b_is_change : Binds K fd_is_change ["value"] []
  a_is_entries : Addr
  fd_is_entries : FuncData
  F_is_entries : Fun K "is_entries" "is_entries" s_is_entries a_is_entries fd_is_entries
  g_is_entries : mg "is_entries" = some (.ref a_is_entries)
  b_is_entries : Binds K fd_is_entries ["value"] []
  a_change_text : Addr
  fd_change_text : FuncData
  F_change_text : Fun K "change_text" "change_text" s_change_text a_change_text fd_change_text
  g_change_text : mg "change_text" = some (.ref a_change_text)
  b_change_text : Binds K fd_change_text ["change"] []
  a_changes_told : Addr
  fd_changes_told : FuncData
  F_changes_told : Fun K "changes_told" "changes_told" s_changes_told a_changes_told fd_changes_told
  g_changes_told : mg "changes_told" = some (.ref a_changes_told)
  b_changes_told : Binds K fd_changes_told ["text", "at"] []
  a_change_from : Addr
  fd_change_from : FuncData
  F_change_from : Fun K "change_from" "change_from" s_change_from a_change_from fd_change_from
  g_change_from : mg "change_from" = some (.ref a_change_from)
  b_change_from : Binds K fd_change_from ["text", "at"] []
  a_part_from : Addr
  fd_part_from : FuncData
  F_part_from : Fun K "part_from" "part_from" s_part_from a_part_from fd_part_from
  g_part_from : mg "part_from" = some (.ref a_part_from)
  b_part_from : Binds K fd_part_from ["text", "at"] []
  a_is_number : Addr
  fd_is_number : FuncData
  F_is_number : Fun K "is_number" "is_number" s_is_number a_is_number fd_is_number
  g_is_number : mg "is_number" = some (.ref a_is_number)
  b_is_number : Binds K fd_is_number ["value", "low", "high"] []
  a_check_text : Addr
  fd_check_text : FuncData
  F_check_text : Fun K "check_text" "check_text" s_check_text a_check_text fd_check_text
  g_check_text : mg "check_text" = some (.ref a_check_text)
  b_check_text : Binds K fd_check_text ["text"] []
  a_is_letter : Addr
  fd_is_letter : FuncData
  F_is_letter : Fun K "is_letter" "is_letter" s_is_letter a_is_letter fd_is_letter
  g_is_letter : mg "is_letter" = some (.ref a_is_letter)
  b_is_letter : Binds K fd_is_letter ["value"] []
  a_are_lines : Addr
  fd_are_lines : FuncData
  F_are_lines : Fun K "are_lines" "are_lines" s_are_lines a_are_lines fd_are_lines
  g_are_lines : mg "are_lines" = some (.ref a_are_lines)
  b_are_lines : Binds K fd_are_lines ["rows", "are_right"] []
  a_check_letter : Addr
  fd_check_letter : FuncData
  F_check_letter : Fun K "check_letter" "check_letter" s_check_letter a_check_letter fd_check_letter
  g_check_letter : mg "check_letter" = some (.ref a_check_letter)
  b_check_letter : Binds K fd_check_letter ["letter"] []
  a_letter_text : Addr
  fd_letter_text : FuncData
  F_letter_text : Fun K "letter_text" "letter_text" s_letter_text a_letter_text fd_letter_text
  g_letter_text : mg "letter_text" = some (.ref a_letter_text)
  b_letter_text : Binds K fd_letter_text ["letter"] []
  a_letter_told : Addr
  fd_letter_told : FuncData
  F_letter_told : Fun K "letter_told" "letter_told" s_letter_told a_letter_told fd_letter_told
  g_letter_told : mg "letter_told" = some (.ref a_letter_told)
  b_letter_told : Binds K fd_letter_told ["text"] []
  a_letter_from : Addr
  fd_letter_from : FuncData
  F_letter_from : Fun K "letter_from" "letter_from" s_letter_from a_letter_from fd_letter_from
  g_letter_from : mg "letter_from" = some (.ref a_letter_from)
  b_letter_from : Binds K fd_letter_from ["text"] []
  a__law_well : Addr
  fd__law_well : FuncData
  F__law_well : Fun K "_law_well" "_law_well" s__law_well a__law_well fd__law_well
  g__law_well : mg "_law_well" = some (.ref a__law_well)
  b__law_well : Binds K fd__law_well ["_law_cell"] []
  a__law_draw : Addr
  fd__law_draw : FuncData
  F__law_draw : Fun K "_law_draw" "_law_draw" s__law_draw a__law_draw fd__law_draw
  g__law_draw : mg "_law_draw" = some (.ref a__law_draw)
  b__law_draw : Binds K fd__law_draw ["_law_well_here", "_law_many"] []
  a__law_same : Addr
  fd__law_same : FuncData
  F__law_same : Fun K "_law_same" "_law_same" s__law_same a__law_same fd__law_same
  g__law_same : mg "_law_same" = some (.ref a__law_same)
  b__law_same : Binds K fd__law_same ["_law_found", "_law_due"] []
  a__law_sign : Addr
  fd__law_sign : FuncData
  F__law_sign : Fun K "_law_sign" "_law_sign" s__law_sign a__law_sign fd__law_sign
  g__law_sign : mg "_law_sign" = some (.ref a__law_sign)
  b__law_sign : Binds K fd__law_sign ["_law_well_here"] []
  a__law_text : Addr
  fd__law_text : FuncData
  F__law_text : Fun K "_law_text" "_law_text" s__law_text a__law_text fd__law_text
  g__law_text : mg "_law_text" = some (.ref a__law_text)
  b__law_text : Binds K fd__law_text ["_law_well_here", "_law_most"] []
  a__law_changes : Addr
  fd__law_changes : FuncData
  F__law_changes : Fun K "_law_changes" "_law_changes" s__law_changes a__law_changes fd__law_changes
  g__law_changes : mg "_law_changes" = some (.ref a__law_changes)
  b__law_changes : Binds K fd__law_changes ["_law_well_here", "_law_least", "_law_most"] []
  a__law_rows : Addr
  fd__law_rows : FuncData
  F__law_rows : Fun K "_law_rows" "_law_rows" s__law_rows a__law_rows fd__law_rows
  g__law_rows : mg "_law_rows" = some (.ref a__law_rows)
  b__law_rows : Binds K fd__law_rows ["_law_changes_here"] []
  a__law_number : Addr
  fd__law_number : FuncData
  F__law_number : Fun K "_law_number" "_law_number" s__law_number a__law_number fd__law_number
  g__law_number : mg "_law_number" = some (.ref a__law_number)
  b__law_number : Binds K fd__law_number ["_law_text_here", "_law_at", "_law_many"] []
  a__law_read_rows : Addr
  fd__law_read_rows : FuncData
  F__law_read_rows : Fun K "_law_read_rows" "_law_read_rows" s__law_read_rows a__law_read_rows fd__law_read_rows
  g__law_read_rows : mg "_law_read_rows" = some (.ref a__law_read_rows)
  b__law_read_rows : Binds K fd__law_read_rows ["_law_text_here"] []
  a__law_digits : Addr
  fd__law_digits : FuncData
  F__law_digits : Fun K "_law_digits" "_law_digits" s__law_digits a__law_digits fd__law_digits
  g__law_digits : mg "_law_digits" = some (.ref a__law_digits)
  b__law_digits : Binds K fd__law_digits ["_law_number_here", "_law_many"] []
  a__law_written : Addr
  fd__law_written : FuncData
  F__law_written : Fun K "_law_written" "_law_written" s__law_written a__law_written fd__law_written
  g__law_written : mg "_law_written" = some (.ref a__law_written)
  b__law_written : Binds K fd__law_written ["_law_letter_here"] []
  a__law_read : Addr
  fd__law_read : FuncData
  F__law_read : Fun K "_law_read" "_law_read" s__law_read a__law_read fd__law_read
  g__law_read : mg "_law_read" = some (.ref a__law_read)
  b__law_read : Binds K fd__law_read ["_law_text_here"] []
  a__law_letter : Addr
  fd__law_letter : FuncData
  F__law_letter : Fun K "_law_letter" "_law_letter" s__law_letter a__law_letter fd__law_letter
  g__law_letter : mg "_law_letter" = some (.ref a__law_letter)
  b__law_letter : Binds K fd__law_letter ["_law_well_here"] []
  a__law_no_rows : Addr
  fd__law_no_rows : FuncData
  F__law_no_rows : Fun K "_law_no_rows" "_law_no_rows" s__law_no_rows a__law_no_rows fd__law_no_rows
  g__law_no_rows : mg "_law_no_rows" = some (.ref a__law_no_rows)
  b__law_no_rows : Binds K fd__law_no_rows ["_law_well_here"] []
  a__law_bent : Addr
  fd__law_bent : FuncData
  F__law_bent : Fun K "_law_bent" "_law_bent" s__law_bent a__law_bent fd__law_bent
  g__law_bent : mg "_law_bent" = some (.ref a__law_bent)
  b__law_bent : Binds K fd__law_bent ["_law_well_here", "_law_letter_here"] []
  a__law_spoilt : Addr
  fd__law_spoilt : FuncData
  F__law_spoilt : Fun K "_law_spoilt" "_law_spoilt" s__law_spoilt a__law_spoilt fd__law_spoilt
  g__law_spoilt : mg "_law_spoilt" = some (.ref a__law_spoilt)
  b__law_spoilt : Binds K fd__law_spoilt ["_law_well_here", "_law_text_here"] []
  a__law_told : Addr
  fd__law_told : FuncData
  F__law_told : Fun K "_law_told" "_law_told" s__law_told a__law_told fd__law_told
  g__law_told : mg "_law_told" = some (.ref a__law_told)
  b__law_told : Binds K fd__law_told ["_law_text_here"] []
  a__law_no_text : Addr
  fd__law_no_text : FuncData
  F__law_no_text : Fun K "_law_no_text" "_law_no_text" s__law_no_text a__law_no_text fd__law_no_text
  g__law_no_text : mg "_law_no_text" = some (.ref a__law_no_text)
  b__law_no_text : Binds K fd__law_no_text ["_law_value"] []
  a__law_no_letter : Addr
  fd__law_no_letter : FuncData
  F__law_no_letter : Fun K "_law_no_letter" "_law_no_letter" s__law_no_letter a__law_no_letter fd__law_no_letter
  g__law_no_letter : mg "_law_no_letter" = some (.ref a__law_no_letter)
  b__law_no_letter : Binds K fd__law_no_letter ["_law_value"] []
  a_law : Addr
  fd_law : FuncData
  F_law : Fun K "law" "law" s_law a_law fd_law
  g_law : mg "law" = some (.ref a_law)
  b_law : Binds K fd_law ["_law_script"] []
  kb_is_letter_0 : KBinds K fd_is_letter ["value"] ["value"] g_kb_is_letter_0 gV_kb_is_letter_0
  kb_letter_text_0 : KBinds K fd_letter_text ["letter"] ["letter"] g_kb_letter_text_0 gV_kb_letter_text_0
  kb_letter_told_0 : KBinds K fd_letter_told ["text"] ["text"] g_kb_letter_told_0 gV_kb_letter_told_0
  x_InvalidLetter : Addr
  q_InvalidLetter : mg "InvalidLetter" = some (.ref x_InvalidLetter)
  x_InvalidText : Addr
  q_InvalidText : mg "InvalidText" = some (.ref x_InvalidText)
  e_InvalidLetter : PySem.W.excIn K x_InvalidLetter [.type "ValueError", .type "Exception", .type "BaseException", .type "object"] "ValueError.__new__" = true
  k_InvalidLetter : PySem.W.keepIn K (.ref x_InvalidLetter) = true
  s_InvalidLetter : PySem.W.subIn K (.ref x_InvalidLetter) (.type "BaseException") = some true
  t_InvalidLetter : PySem.W.typeIn K (.ref x_InvalidLetter) = some (.type "type")
  m_InvalidLetter_InvalidLetter : PySem.W.exmOne K (.ref x_InvalidLetter) (.ref x_InvalidLetter) = some true
  m_InvalidLetter_InvalidText : PySem.W.exmOne K (.ref x_InvalidLetter) (.ref x_InvalidText) = some false
  e_InvalidText : PySem.W.excIn K x_InvalidText [.type "ValueError", .type "Exception", .type "BaseException", .type "object"] "ValueError.__new__" = true
  k_InvalidText : PySem.W.keepIn K (.ref x_InvalidText) = true
  s_InvalidText : PySem.W.subIn K (.ref x_InvalidText) (.type "BaseException") = some true
  t_InvalidText : PySem.W.typeIn K (.ref x_InvalidText) = some (.type "type")
  m_InvalidText_InvalidLetter : PySem.W.exmOne K (.ref x_InvalidText) (.ref x_InvalidLetter) = some false
  m_InvalidText_InvalidText : PySem.W.exmOne K (.ref x_InvalidText) (.ref x_InvalidText) = some true
  m_abs : mg "abs" = none
  m_all : mg "all" = none
  m_int : mg "int" = none
  m_isinstance : mg "isinstance" = none
  m_len : mg "len" = none
  m_list : mg "list" = none
  m_max : mg "max" = none
  m_range : mg "range" = none
  m_sorted : mg "sorted" = none
  m_str : mg "str" = none
  m_tuple : mg "tuple" = none
  m_type : mg "type" = none
  m_zip : mg "zip" = none
  c_MOST_NUMBER : ∃ t, mg "MOST_NUMBER" = some (.int 99999999 t)
  c_MOST_PIECES : ∃ t, mg "MOST_PIECES" = some (.int 9999 t)
  c_MOST_SIGNS : ∃ t, mg "MOST_SIGNS" = some (.int 9999 t)

/-! ### the bodies -/
section
variable {P : Program} {w : World} {K : PySem.W.Frag} {mg : Str → Option Value} {base : Heap}
def t_is_text (K : PySem.W.Frag)  : TS :=
    (tRet (tAndV (tOp (rIS K) (tCB (rTyp K) (tCons (tVar 0) tNil)) (tC (.ty "str"))) (tAndV (tBM0 K "str" rM_isascii (tVar 0)) (tBM0 K "str" rM_isprintable (tVar 0)))))
theorem b_is_text (Y : Fx K mg)   {f : Addr} {cdv : Value} {A : Around} {outer : List Env} {s : Shared} {H : Hp} {E : XK} (hr : Room 0 (A.deeper (envOfC "is_text" (defScope s_is_text) s.heap.objs.size f cdv))) :
    PSs (cxOf CX0 P w K mg base ["value"] "is_text" (defScope s_is_text) f cdv A outer s H E).nox (defBody s_is_text) (t_is_text K ) :=
    (pss_one (ps_ret (pe_and (pe_cmpR op_IS (pe_callTy call_type1 (by rfl) Y.m_type (by decide +kernel) (pa_cons (pv 0) pa_nil)) (pe_bltn (v := .ty "str") (by rfl) Y.m_str (by decide +kernel) rfl) (nomark _)) (pe_and (pe_bm0 PySem.F.plainAttrs_str PySem.F.slot_str_isascii PySem.F.type_str_isascii mt_isascii (pv 0)) (pe_one (pe_bm0 PySem.F.plainAttrs_str PySem.F.slot_str_isprintable PySem.F.type_str_isprintable mt_isprintable (pv 0)))))))
def t_number_at (K : PySem.W.Frag)  : TS :=
    (tSeq (tAsg (tSl (rSL K) (tVar 0) (tPart (tVar 1)) (tPart (tOp (rADD K) (tVar 1) (tVar 2)))) (gName 3))
    (tSeq (tIfS (tAnd (tTest (tOp (rEQ K) (tCB (rLEN K) (tCons (tVar 3) tNil)) (tVar 2))) (tTru1 K (tBM0 K "str" rM_isdigit (tVar 3)))) (tRet (tCB rINT (tCons (tVar 3) tNil))) tNext)
    (tRet (tC .non))))
theorem b_number_at (Y : Fx K mg)   {f : Addr} {cdv : Value} {A : Around} {outer : List Env} {s : Shared} {H : Hp} {E : XK} (hr : Room 0 (A.deeper (envOfC "number_at" (defScope s_number_at) s.heap.objs.size f cdv))) :
    PSs (cxOf CX0 P w K mg base ["text", "at", "size", "word"] "number_at" (defScope s_number_at) f cdv A outer s H E).nox (defBody s_number_at) (t_number_at K ) :=
    (pss_cons (ps_set (i := 3) sc_number_at.nd rfl (Or.inl rfl) (pe_slice sl_SEQ (pv 0) (po_some (pv 1)) (po_some (pe_op op_ADD (pv 1) (pv 2)))))
    (pss_cons (ps_if (PW.pt (pw_and (pt_cmpR (op_EQ (hu_64 hr)) (pe_callB call_LEN (by rfl) Y.m_len (by decide +kernel) (pa_cons (pv 3) pa_nil)) (pv 2) (nomark _)) (pw_and1 (pt_tru (pe_bm0 PySem.F.plainAttrs_str PySem.F.slot_str_isdigit PySem.F.type_str_isdigit mt_isdigit (pv 3)) (by intro _; rfl))))) (pss_one (ps_ret (pe_callTy call_INT (by rfl) Y.m_int (by decide +kernel) (pa_cons (pv 3) pa_nil)))) pss_nil)
    (pss_one (ps_ret pe_non))))
def t_is_changes (K : PySem.W.Frag) (sp_is_change : PySem.W.Frag → Sp) : TS :=
    (tSeq (tIfS (tOr (tTest (tOp (rISN K) (tCB (rTyp K) (tCons (tVar 0) tNil)) (tC (.ty "tuple")))) (tNot (tTru1 K (tCB (rAll K) (tCons (tLc (iTup K (tVar 0)) (gName 1) tYes (tCall (sp_is_change K) [] E0 (tCons (tVar 1) tNil)) [1]) tNil))))) (tRet (tC (.bl false))) tNext)
    (tSeq (tAsg (tLc (iTup K (tVar 0)) (gTup K 2 (gCons (gName 3) (gCons (gName 4) gNil))) tYes (tVar 3) [3, 4]) (gName 2))
    (tRet (tCB (rAll K) (tCons (tLc (iZip K (tCons (tVar 2) (tCons (tSl (rSL K) (tVar 2) (tPart (tC (.int 1))) tNoPart) tNil))) (gTup K 2 (gCons (gName 5) (gCons (gName 6) gNil))) tYes (tOp rLT (tVar 5) (tVar 6)) [5, 6]) tNil)))))
theorem b_is_changes (Y : Fx K mg) {sp_is_change : PySem.W.Frag → Sp} (G_is_change : FnOk P w K mg base CX0 2 Y.a_is_change Y.fd_is_change ["value"] (sp_is_change K)) {f : Addr} {cdv : Value} {A : Around} {outer : List Env} {s : Shared} {H : Hp} {E : XK} (hr : Room 2 (A.deeper (envOfC "is_changes" (defScope s_is_changes) s.heap.objs.size f cdv))) :
    PSs (cxOf CX0 P w K mg base ["value", "change", "keys", "key", "_", "one", "other"] "is_changes" (defScope s_is_changes) f cdv A outer s H E).nox (defBody s_is_changes) (t_is_changes K sp_is_change) :=
    (pss_cons (ps_if (PW.pt (pw_or (pt_cmpR op_ISN (pe_callTy call_type1 (by rfl) Y.m_type (by decide +kernel) (pa_cons (pv 0) pa_nil)) (pe_bltn (v := .ty "tuple") (by rfl) Y.m_tuple (by decide +kernel) rfl) (nomark _)) (pw_or1 (pt_not (pt_tru (pe_callB (cr_all rfl) (by rfl) Y.m_all (by decide +kernel) (pa_cons (pe_lc (own := [("change", 1)]) (by rfl) sc_is_changes.nd (pi_tup (pv 0)) (blkOk_by (own := [("change", 1)]) (N := ["value", "change", "keys", "key", "_", "one", "other"]) (sc := defScope s_is_changes) (by decide +kernel)) (fun _ _ _ _ _ => (pg_name (i := 1) sc_is_changes.nd rfl (Or.inl rfl))) (fun _ _ _ _ _ => pts_nil) (fun _ _ _ _ _ => (pe_call G_is_change (hr.mono (by decide)) (by rfl) Y.g_is_change Y.F_is_change.kp Y.b_is_change .nil pass0 (pa_cons (pv 1) pa_nil)))) pa_nil)) (by intro _; rfl)))))) (pss_one (ps_ret pe_bl)) pss_nil)
    (pss_cons (ps_setLc (i := 2) (own := [("key", 3), ("_", 4)]) (by rfl) sc_is_changes.nd rfl rfl (sw_true rfl rfl rfl (by decide +kernel)) (pi_tup (pv 0)) (blkOk_by (own := [("key", 3), ("_", 4)]) (N := ["value", "change", "keys", "key", "_", "one", "other"]) (sc := defScope s_is_changes) (by decide +kernel)) (fun _ _ _ _ _ => (pg_tup rfl (pgs_cons (pg_name (i := 3) sc_is_changes.nd rfl (Or.inl rfl)) (pgs_cons (pg_name (i := 4) sc_is_changes.nd rfl (Or.inl rfl)) pgs_nil)))) (fun _ _ _ _ _ => pts_nil) (fun _ _ _ _ _ => (pv 3)))
    (pss_one (ps_ret (pe_callB (cr_all rfl) (by rfl) Y.m_all (by decide +kernel) (pa_cons (pe_lc (own := [("one", 5), ("other", 6)]) (by rfl) sc_is_changes.nd (pi_zip (by rfl) Y.m_zip (pa_cons (pv 2) (pa_cons (pe_slice sl_SEQ (pv 2) (po_some pe_int) po_none) pa_nil))) (blkOk_by (own := [("one", 5), ("other", 6)]) (N := ["value", "change", "keys", "key", "_", "one", "other"]) (sc := defScope s_is_changes) (by decide +kernel)) (fun _ _ _ _ _ => (pg_tup rfl (pgs_cons (pg_name (i := 5) sc_is_changes.nd rfl (Or.inl rfl)) (pgs_cons (pg_name (i := 6) sc_is_changes.nd rfl (Or.inl rfl)) pgs_nil)))) (fun _ _ _ _ _ => pts_nil) (fun _ _ _ _ _ => (pe_cmpR op_LT (pv 5) (pv 6) (nomark _)))) pa_nil))))))
def t_is_change (K : PySem.W.Frag) (sp_is_text : PySem.W.Frag → Sp) : TS :=
    (tSeq (tIfS (tOr (tTest (tOp (rISN K) (tCB (rTyp K) (tCons (tVar 0) tNil)) (tC (.ty "tuple")))) (tTest (tOp (rNE K) (tCB (rLEN K) (tCons (tVar 0) tNil)) (tC (.int 2))))) (tRet (tC (.bl false))) tNext)
    (tRet (tAndV (tCall (sp_is_text K) [] E0 (tCons (tOp (rIX K) (tVar 0) (tC (.int 0))) tNil)) (tOrV (tOp (rIS K) (tOp (rIX K) (tVar 0) (tC (.int 1))) (tC .non)) (tCall (sp_is_text K) [] E0 (tCons (tOp (rIX K) (tVar 0) (tC (.int 1))) tNil))))))
theorem b_is_change (Y : Fx K mg) {sp_is_text : PySem.W.Frag → Sp} (G_is_text : FnOk P w K mg base CX0 1 Y.a_is_text Y.fd_is_text ["value"] (sp_is_text K)) {f : Addr} {cdv : Value} {A : Around} {outer : List Env} {s : Shared} {H : Hp} {E : XK} (hr : Room 1 (A.deeper (envOfC "is_change" (defScope s_is_change) s.heap.objs.size f cdv))) :
    PSs (cxOf CX0 P w K mg base ["value"] "is_change" (defScope s_is_change) f cdv A outer s H E).nox (defBody s_is_change) (t_is_change K sp_is_text) :=
    (pss_cons (ps_if (PW.pt (pw_or (pt_cmpR op_ISN (pe_callTy call_type1 (by rfl) Y.m_type (by decide +kernel) (pa_cons (pv 0) pa_nil)) (pe_bltn (v := .ty "tuple") (by rfl) Y.m_tuple (by decide +kernel) rfl) (nomark _)) (pw_or1 (pt_cmpR (op_NE (hu_64 hr)) (pe_callB call_LEN (by rfl) Y.m_len (by decide +kernel) (pa_cons (pv 0) pa_nil)) pe_int (nomark _))))) (pss_one (ps_ret pe_bl)) pss_nil)
    (pss_one (ps_ret (pe_and (pe_call G_is_text (hr.mono (by decide)) (by rfl) Y.g_is_text Y.F_is_text.kp Y.b_is_text .nil pass0 (pa_cons (pe_ix ix_SEQ (pv 0) pe_int (fun _ _ => rfl)) pa_nil)) (pe_one (pe_or (pe_cmpR op_IS (pe_ix ix_SEQ (pv 0) pe_int (fun _ _ => rfl)) pe_non (nomark _)) (pe_one (pe_call G_is_text (hr.mono (by decide)) (by rfl) Y.g_is_text Y.F_is_text.kp Y.b_is_text .nil pass0 (pa_cons (pe_ix ix_SEQ (pv 0) pe_int (fun _ _ => rfl)) pa_nil)))))))))
def t_is_entries (K : PySem.W.Frag) (sp_is_changes : PySem.W.Frag → Sp) : TS :=
    (tRet (tAndV (tCall (sp_is_changes K) [] E0 (tCons (tVar 0) tNil)) (tCB (rAll K) (tCons (tLc (iTup K (tVar 0)) (gTup K 2 (gCons (gName 1) (gCons (gName 2) gNil))) tYes (tOp (rISN K) (tVar 2) (tC .non)) [1, 2]) tNil))))
theorem b_is_entries (Y : Fx K mg) {sp_is_changes : PySem.W.Frag → Sp} (G_is_changes : FnOk P w K mg base CX0 3 Y.a_is_changes Y.fd_is_changes ["value"] (sp_is_changes K)) {f : Addr} {cdv : Value} {A : Around} {outer : List Env} {s : Shared} {H : Hp} {E : XK} (hr : Room 3 (A.deeper (envOfC "is_entries" (defScope s_is_entries) s.heap.objs.size f cdv))) :
    PSs (cxOf CX0 P w K mg base ["value", "_", "text"] "is_entries" (defScope s_is_entries) f cdv A outer s H E).nox (defBody s_is_entries) (t_is_entries K sp_is_changes) :=
    (pss_one (ps_ret (pe_and (pe_call G_is_changes (hr.mono (by decide)) (by rfl) Y.g_is_changes Y.F_is_changes.kp Y.b_is_changes .nil pass0 (pa_cons (pv 0) pa_nil)) (pe_one (pe_callB (cr_all rfl) (by rfl) Y.m_all (by decide +kernel) (pa_cons (pe_lc (own := [("_", 1), ("text", 2)]) (by rfl) sc_is_entries.nd (pi_tup (pv 0)) (blkOk_by (own := [("_", 1), ("text", 2)]) (N := ["value", "_", "text"]) (sc := defScope s_is_entries) (by decide +kernel)) (fun _ _ _ _ _ => (pg_tup rfl (pgs_cons (pg_name (i := 1) sc_is_entries.nd rfl (Or.inl rfl)) (pgs_cons (pg_name (i := 2) sc_is_entries.nd rfl (Or.inl rfl)) pgs_nil)))) (fun _ _ _ _ _ => pts_nil) (fun _ _ _ _ _ => (pe_cmpR op_ISN (pv 2) pe_non (nomark _)))) pa_nil))))))
def t_change_text (K : PySem.W.Frag)  : TS :=
    (tSeq (tAsg (tVar 0) (gTup K 2 (gCons (gName 1) (gCons (gName 2) gNil))))
    (tSeq (tIfS (tTest (tOp (rIS K) (tVar 2) (tC .non))) (tRet (fun σ H Q => tJs [(tC (.str "-")), (tFmt0 4 (tCB (rLEN K) (tCons (tVar 1) tNil))), (tFmt (tVar 1))] Str.empty σ H fun out H1 => Q (.str out) H1)) tNext)
    (tRet (fun σ H Q => tJs [(tC (.str "+")), (tFmt0 4 (tCB (rLEN K) (tCons (tVar 1) tNil))), (tFmt (tVar 1)), (tFmt0 4 (tCB (rLEN K) (tCons (tVar 2) tNil))), (tFmt (tVar 2))] Str.empty σ H fun out H1 => Q (.str out) H1))))
theorem b_change_text (Y : Fx K mg)   {f : Addr} {cdv : Value} {A : Around} {outer : List Env} {s : Shared} {H : Hp} {E : XK} (hr : Room 0 (A.deeper (envOfC "change_text" (defScope s_change_text) s.heap.objs.size f cdv))) :
    PSs (cxOf CX0 P w K mg base ["change", "key", "value"] "change_text" (defScope s_change_text) f cdv A outer s H E).nox (defBody s_change_text) (t_change_text K ) :=
    (pss_cons (ps_asg (pv 0) (pg_tup rfl (pgs_cons (pg_name (i := 1) sc_change_text.nd rfl (Or.inl rfl)) (pgs_cons (pg_name (i := 2) sc_change_text.nd rfl (Or.inl rfl)) pgs_nil))))
    (pss_cons (ps_if (pt_cmpR op_IS (pv 2) pe_non (nomark _)) (pss_one (ps_ret (pe_joined (PJ.cons pe_str (PJ.cons (pe_fmt0 4 (pe_callB call_LEN (by rfl) Y.m_len (by decide +kernel) (pa_cons (pv 1) pa_nil))) (PJ.cons (pe_fmt (pv 1)) PJ.nil)))))) pss_nil)
    (pss_one (ps_ret (pe_joined (PJ.cons pe_str (PJ.cons (pe_fmt0 4 (pe_callB call_LEN (by rfl) Y.m_len (by decide +kernel) (pa_cons (pv 1) pa_nil))) (PJ.cons (pe_fmt (pv 1)) (PJ.cons (pe_fmt0 4 (pe_callB call_LEN (by rfl) Y.m_len (by decide +kernel) (pa_cons (pv 2) pa_nil))) (PJ.cons (pe_fmt (pv 2)) PJ.nil))))))))))
def t_changes_told (K : PySem.W.Frag) (sp_change_from : PySem.W.Frag → Sp) : TS :=
    (tSeq (tAsg (tLst tNil) (gName 2))
    (tSeq (tWhile (tTest (tOp rLT (tVar 1) (tCB (rLEN K) (tCons (tVar 0) tNil)))) (tSeq (tAsg (tCall (sp_change_from K) [] E0 (tCons (tVar 0) (tCons (tVar 1) tNil))) (gName 3))
      (tSeq (tIfS (tTest (tOp (rIS K) (tVar 3) (tC .non))) (tRet (tC .non)) tNext)
      (tSeq (tAsg (tVar 3) (gTup K 2 (gCons (gName 4) (gCons (gName 1) gNil))))
      (tDrop (tBM K "list" rAppend (tVar 2) (tCons (tVar 4) tNil)))))))
    (tRet (tCB (rTUPLE K) (tCons (tVar 2) tNil)))))
theorem b_changes_told (Y : Fx K mg) {sp_change_from : PySem.W.Frag → Sp} (G_change_from : FnOk P w K mg base CX0 3 Y.a_change_from Y.fd_change_from ["text", "at"] (sp_change_from K)) {f : Addr} {cdv : Value} {A : Around} {outer : List Env} {s : Shared} {H : Hp} {E : XK} (hr : Room 3 (A.deeper (envOfC "changes_told" (defScope s_changes_told) s.heap.objs.size f cdv))) :
    PSs (cxOf CX0 P w K mg base ["text", "at", "found", "told", "change"] "changes_told" (defScope s_changes_told) f cdv A outer s H E).nox (defBody s_changes_told) (t_changes_told K sp_change_from) :=
    (pss_cons (ps_set (i := 2) sc_changes_told.nd rfl (Or.inl rfl) (pe_lst pa_nil))
    (pss_cons (ps_while PassesOwn.never (pt_cmpR op_LT (pv 1) (pe_callB call_LEN (by rfl) Y.m_len (by decide +kernel) (pa_cons (pv 0) pa_nil)) (nomark _)) (pss_cons (ps_set (i := 3) sc_changes_told.nd rfl (Or.inl rfl) (pe_call G_change_from (hr.mono (by decide)) (by rfl) Y.g_change_from Y.F_change_from.kp Y.b_change_from .nil pass0 (pa_cons (pv 0) (pa_cons (pv 1) pa_nil))))
      (pss_cons (ps_if (pt_cmpR op_IS (pv 3) pe_non (nomark _)) (pss_one (ps_ret pe_non)) pss_nil)
      (pss_cons (ps_asg (pv 3) (pg_tup rfl (pgs_cons (pg_name (i := 4) sc_changes_told.nd rfl (Or.inl rfl)) (pgs_cons (pg_name (i := 1) sc_changes_told.nd rfl (Or.inl rfl)) pgs_nil))))
      (pss_one (ps_expr (pe_bm PySem.F.plainAttrs_list PySem.F.slot_list_append PySem.F.type_list_append mt_append (pv 2) (pa_cons (pv 4) pa_nil))))))))
    (pss_one (ps_ret (pe_callTy call_TUPLE (by rfl) Y.m_tuple (by decide +kernel) (pa_cons (pv 2) pa_nil))))))
def t_change_from (K : PySem.W.Frag) (sp_part_from : PySem.W.Frag → Sp) : TS :=
    (tSeq (tAsg (tCall (sp_part_from K) [] E0 (tCons (tVar 0) (tCons (tOp (rADD K) (tVar 1) (tC (.int 1))) tNil))) (gTup K 2 (gCons (gName 2) (gCons (gName 3) gNil))))
    (tSeq (tIfS (tTest (tOp (rIS K) (tVar 2) (tC .non))) (tRet (tC .non)) tNext)
    (tSeq (tIfS (tTest (tOp (rEQ K) (tOp (rIX K) (tVar 0) (tVar 1)) (tC (.str "-")))) (tRet (tTup (tCons (tTup (tCons (tVar 2) (tCons (tC .non) tNil))) (tCons (tVar 3) tNil)))) tNext)
    (tSeq (tAsg (tCall (sp_part_from K) [] E0 (tCons (tVar 0) (tCons (tVar 3) tNil))) (gTup K 2 (gCons (gName 4) (gCons (gName 3) gNil))))
    (tSeq (tIfS (tOr (tTest (tOp (rNE K) (tOp (rIX K) (tVar 0) (tVar 1)) (tC (.str "+")))) (tTest (tOp (rIS K) (tVar 4) (tC .non)))) (tRet (tC .non)) tNext)
    (tRet (tTup (tCons (tTup (tCons (tVar 2) (tCons (tVar 4) tNil))) (tCons (tVar 3) tNil)))))))))
theorem b_change_from (Y : Fx K mg) {sp_part_from : PySem.W.Frag → Sp} (G_part_from : FnOk P w K mg base CX0 2 Y.a_part_from Y.fd_part_from ["text", "at"] (sp_part_from K)) {f : Addr} {cdv : Value} {A : Around} {outer : List Env} {s : Shared} {H : Hp} {E : XK} (hr : Room 2 (A.deeper (envOfC "change_from" (defScope s_change_from) s.heap.objs.size f cdv))) :
    PSs (cxOf CX0 P w K mg base ["text", "at", "key", "end", "value"] "change_from" (defScope s_change_from) f cdv A outer s H E).nox (defBody s_change_from) (t_change_from K sp_part_from) :=
    (pss_cons (ps_asg (pe_call G_part_from (hr.mono (by decide)) (by rfl) Y.g_part_from Y.F_part_from.kp Y.b_part_from .nil pass0 (pa_cons (pv 0) (pa_cons (pe_op op_ADD (pv 1) pe_int) pa_nil))) (pg_tup rfl (pgs_cons (pg_name (i := 2) sc_change_from.nd rfl (Or.inl rfl)) (pgs_cons (pg_name (i := 3) sc_change_from.nd rfl (Or.inl rfl)) pgs_nil))))
    (pss_cons (ps_if (pt_cmpR op_IS (pv 2) pe_non (nomark _)) (pss_one (ps_ret pe_non)) pss_nil)
    (pss_cons (ps_if (pt_cmpR (op_EQ (hu_64 hr)) (pe_ix ix_SEQ (pv 0) (pv 1) (fun _ _ => rfl)) pe_str (nomark _)) (pss_one (ps_ret (pe_tup (pa_cons (pe_tup (pa_cons (pv 2) (pa_cons pe_non pa_nil))) (pa_cons (pv 3) pa_nil))))) pss_nil)
    (pss_cons (ps_asg (pe_call G_part_from (hr.mono (by decide)) (by rfl) Y.g_part_from Y.F_part_from.kp Y.b_part_from .nil pass0 (pa_cons (pv 0) (pa_cons (pv 3) pa_nil))) (pg_tup rfl (pgs_cons (pg_name (i := 4) sc_change_from.nd rfl (Or.inl rfl)) (pgs_cons (pg_name (i := 3) sc_change_from.nd rfl (Or.inl rfl)) pgs_nil))))
    (pss_cons (ps_if (PW.pt (pw_or (pt_cmpR (op_NE (hu_64 hr)) (pe_ix ix_SEQ (pv 0) (pv 1) (fun _ _ => rfl)) pe_str (nomark _)) (pw_or1 (pt_cmpR op_IS (pv 4) pe_non (nomark _))))) (pss_one (ps_ret pe_non)) pss_nil)
    (pss_one (ps_ret (pe_tup (pa_cons (pe_tup (pa_cons (pv 2) (pa_cons (pv 4) pa_nil))) (pa_cons (pv 3) pa_nil))))))))))
def t_part_from (K : PySem.W.Frag) (sp_number_at : PySem.W.Frag → Sp) : TS :=
    (tSeq (tAsg (tCall (sp_number_at K) [] E0 (tCons (tVar 0) (tCons (tVar 1) (tCons (tC (.int 4)) tNil)))) (gName 2))
    (tSeq (tIfS (tOr (tTest (tOp (rIS K) (tVar 2) (tC .non))) (tTest (tOp rGT (tOp (rADD K) (tOp (rADD K) (tVar 1) (tC (.int 4))) (tVar 2)) (tCB (rLEN K) (tCons (tVar 0) tNil))))) (tRet (tTup (tCons (tC .non) (tCons (tVar 1) tNil)))) tNext)
    (tSeq (tAsg (tOp (rADD K) (tOp (rADD K) (tVar 1) (tC (.int 4))) (tVar 2)) (gName 3))
    (tRet (tTup (tCons (tSl (rSL K) (tVar 0) (tPart (tOp (rADD K) (tVar 1) (tC (.int 4)))) (tPart (tVar 3))) (tCons (tVar 3) tNil)))))))
theorem b_part_from (Y : Fx K mg) {sp_number_at : PySem.W.Frag → Sp} (G_number_at : FnOk P w K mg base CX0 1 Y.a_number_at Y.fd_number_at ["text", "at", "size"] (sp_number_at K)) {f : Addr} {cdv : Value} {A : Around} {outer : List Env} {s : Shared} {H : Hp} {E : XK} (hr : Room 1 (A.deeper (envOfC "part_from" (defScope s_part_from) s.heap.objs.size f cdv))) :
    PSs (cxOf CX0 P w K mg base ["text", "at", "size", "end"] "part_from" (defScope s_part_from) f cdv A outer s H E).nox (defBody s_part_from) (t_part_from K sp_number_at) :=
    (pss_cons (ps_set (i := 2) sc_part_from.nd rfl (Or.inl rfl) (pe_call G_number_at (hr.mono (by decide)) (by rfl) Y.g_number_at Y.F_number_at.kp Y.b_number_at .nil pass0 (pa_cons (pv 0) (pa_cons (pv 1) (pa_cons pe_int pa_nil)))))
    (pss_cons (ps_if (PW.pt (pw_or (pt_cmpR op_IS (pv 2) pe_non (nomark _)) (pw_or1 (pt_cmpR op_GT (pe_op op_ADD (pe_op op_ADD (pv 1) pe_int) (pv 2)) (pe_callB call_LEN (by rfl) Y.m_len (by decide +kernel) (pa_cons (pv 0) pa_nil)) (nomark _))))) (pss_one (ps_ret (pe_tup (pa_cons pe_non (pa_cons (pv 1) pa_nil))))) pss_nil)
    (pss_cons (ps_set (i := 3) sc_part_from.nd rfl (Or.inl rfl) (pe_op op_ADD (pe_op op_ADD (pv 1) pe_int) (pv 2)))
    (pss_one (ps_ret (pe_tup (pa_cons (pe_slice sl_SEQ (pv 0) (po_some (pe_op op_ADD (pv 1) pe_int)) (po_some (pv 3))) (pa_cons (pv 3) pa_nil))))))))
def t_is_number (K : PySem.W.Frag)  : TS :=
    (tRet (tAndV (tOp (rIS K) (tCB (rTyp K) (tCons (tVar 0) tNil)) (tC (.ty "int"))) (tChain rLE rLE (tVar 1) (tVar 0) (tVar 2))))
theorem b_is_number (Y : Fx K mg)   {f : Addr} {cdv : Value} {A : Around} {outer : List Env} {s : Shared} {H : Hp} {E : XK} (hr : Room 0 (A.deeper (envOfC "is_number" (defScope s_is_number) s.heap.objs.size f cdv))) :
    PSs (cxOf CX0 P w K mg base ["value", "low", "high"] "is_number" (defScope s_is_number) f cdv A outer s H E).nox (defBody s_is_number) (t_is_number K ) :=
    (pss_one (ps_ret (pe_and (pe_cmpR op_IS (pe_callTy call_type1 (by rfl) Y.m_type (by decide +kernel) (pa_cons (pv 0) pa_nil)) (pe_bltn (v := .ty "int") (by rfl) Y.m_int (by decide +kernel) rfl) (nomark _)) (pe_one (pe_chain op_LE op_LE (pv 1) (pv 0) (pv 2))))))
def t_check_text (K : PySem.W.Frag) {mg : Str → Option Value} (Y : Fx K mg) (E : XK) (sp_is_text : PySem.W.Frag → Sp) : TS :=
    (tIfS (tNot (tTru1 K (tCall (sp_is_text K) [] E0 (tCons (tVar 0) tNil)))) (tRaise (.ref Y.x_InvalidText) E) tNext)
theorem b_check_text (Y : Fx K mg) {sp_is_text : PySem.W.Frag → Sp} (G_is_text : FnOk P w K mg base CX0 1 Y.a_is_text Y.fd_is_text ["value"] (sp_is_text K)) {f : Addr} {cdv : Value} {A : Around} {outer : List Env} {s : Shared} {H : Hp} {E : XK} (hr : Room 1 (A.deeper (envOfC "check_text" (defScope s_check_text) s.heap.objs.size f cdv))) :
    PSs (cxOf (L2.CX P w) P w K mg base ["text"] "check_text" (defScope s_check_text) f cdv A outer s H E) (defBody s_check_text) (t_check_text K Y E sp_is_text) :=
    (pss_one (ps_if (pt_not (pt_tru (pe_call G_is_text (hr.mono (by decide)) (by rfl) Y.g_is_text Y.F_is_text.kp Y.b_is_text .nil pass0 (pa_cons (pv 0) pa_nil)) (by intro _; rfl))) (pss_one (ps_raiseE rfl (takes_of rfl rfl rfl rfl) PySem.F.excBase_ValueError Y.e_InvalidText Y.q_InvalidText Y.k_InvalidText (raises_own Y.s_InvalidText Y.t_InvalidText) (by rfl))) pss_nil))
def t_is_letter (K : PySem.W.Frag) (sp_are_lines : PySem.W.Frag → Sp) (sp_is_changes : PySem.W.Frag → Sp) (sp_is_entries : PySem.W.Frag → Sp) (sp_is_number : PySem.W.Frag → Sp) : TS :=
    (tSeq (tIfS (tOr (tTest (tOp (rISN K) (tCB (rTyp K) (tCons (tVar 0) tNil)) (tC (.ty "tuple")))) (tNot (tTru1 K (tVar 0)))) (tRet (tC (.bl false))) tNext)
    (tSeq (tIfS (tTest (tOp (rEQ K) (tOp (rIX K) (tVar 0) (tC (.int 0))) (tC (.str "none")))) (tRet (tOp (rEQ K) (tCB (rLEN K) (tCons (tVar 0) tNil)) (tC (.int 1)))) tNext)
    (tSeq (tIfS (tTest (tOp (rEQ K) (tOp (rIX K) (tVar 0) (tC (.int 0))) (tC (.str "part")))) (tRet (tAndV (tOp (rEQ K) (tCB (rLEN K) (tCons (tVar 0) tNil)) (tC (.int 3))) (tAndV (tCall (sp_is_number K) [] E0 (tCons (tOp (rIX K) (tVar 0) (tC (.int 1))) (tCons (tC (.int 1)) (tCons (tC (.int 99999999)) tNil)))) (tCall (sp_are_lines K) [] E0 (tCons (tOp (rIX K) (tVar 0) (tC (.int 2))) (tCons (tCall (sp_is_changes K) [] E0 (tCons (tOp (rIX K) (tVar 0) (tC (.int 2))) tNil)) tNil)))))) tNext)
    (tSeq (tIfS (tOr (tTest (tOp (rNE K) (tOp (rIX K) (tVar 0) (tC (.int 0))) (tC (.str "piece")))) (tTest (tOp (rNE K) (tCB (rLEN K) (tCons (tVar 0) tNil)) (tC (.int 5))))) (tRet (tC (.bl false))) tNext)
    (tSeq (tAsg (tSl (rSL K) (tVar 0) (tPart (tC (.int 1))) tNoPart) (gTup K 4 (gCons (gName 1) (gCons (gName 2) (gCons (gName 3) (gCons (gName 4) gNil))))))
    (tSeq (tIfS (tOr (tNot (tTru1 K (tCall (sp_is_number K) [] E0 (tCons (tVar 1) (tCons (tC (.int 0)) (tCons (tC (.int 99999999)) tNil)))))) (tNot (tTru1 K (tCall (sp_is_number K) [] E0 (tCons (tVar 3) (tCons (tC (.int 1)) (tCons (tC (.int 9999)) tNil))))))) (tRet (tC (.bl false))) tNext)
    (tRet (tAndV (tCall (sp_is_number K) [] E0 (tCons (tVar 2) (tCons (tC (.int 0)) (tCons (tOp rSUB (tVar 3) (tC (.int 1))) tNil)))) (tCall (sp_are_lines K) [] E0 (tCons (tVar 4) (tCons (tCall (sp_is_entries K) [] E0 (tCons (tVar 4) tNil)) tNil)))))))))))
theorem b_is_letter (Y : Fx K mg) {sp_are_lines : PySem.W.Frag → Sp} {sp_is_changes : PySem.W.Frag → Sp} {sp_is_entries : PySem.W.Frag → Sp} {sp_is_number : PySem.W.Frag → Sp} (G_are_lines : FnOk P w K mg base CX0 1 Y.a_are_lines Y.fd_are_lines ["rows", "are_right"] (sp_are_lines K)) (G_is_changes : FnOk P w K mg base CX0 3 Y.a_is_changes Y.fd_is_changes ["value"] (sp_is_changes K)) (G_is_entries : FnOk P w K mg base CX0 4 Y.a_is_entries Y.fd_is_entries ["value"] (sp_is_entries K)) (G_is_number : FnOk P w K mg base CX0 1 Y.a_is_number Y.fd_is_number ["value", "low", "high"] (sp_is_number K)) {f : Addr} {cdv : Value} {A : Around} {outer : List Env} {s : Shared} {H : Hp} {E : XK} (hr : Room 4 (A.deeper (envOfC "is_letter" (defScope s_is_letter) s.heap.objs.size f cdv))) :
    PSs (cxOf CX0 P w K mg base ["value", "number", "index", "pieces", "entries"] "is_letter" (defScope s_is_letter) f cdv A outer s H E).nox (defBody s_is_letter) (t_is_letter K sp_are_lines sp_is_changes sp_is_entries sp_is_number) :=
    (pss_cons (ps_if (PW.pt (pw_or (pt_cmpR op_ISN (pe_callTy call_type1 (by rfl) Y.m_type (by decide +kernel) (pa_cons (pv 0) pa_nil)) (pe_bltn (v := .ty "tuple") (by rfl) Y.m_tuple (by decide +kernel) rfl) (nomark _)) (pw_or1 (pt_not (pt_tru (pv 0) (by intro _; rfl)))))) (pss_one (ps_ret pe_bl)) pss_nil)
    (pss_cons (ps_if (pt_cmpR (op_EQ (hu_64 hr)) (pe_ix ix_SEQ (pv 0) pe_int (fun _ _ => rfl)) pe_str (nomark _)) (pss_one (ps_ret (pe_cmpR (op_EQ (hu_64 hr)) (pe_callB call_LEN (by rfl) Y.m_len (by decide +kernel) (pa_cons (pv 0) pa_nil)) pe_int (nomark _)))) pss_nil)
    (pss_cons (ps_if (pt_cmpR (op_EQ (hu_64 hr)) (pe_ix ix_SEQ (pv 0) pe_int (fun _ _ => rfl)) pe_str (nomark _)) (pss_one (ps_ret (pe_and (pe_cmpR (op_EQ (hu_64 hr)) (pe_callB call_LEN (by rfl) Y.m_len (by decide +kernel) (pa_cons (pv 0) pa_nil)) pe_int (nomark _)) (pe_and (pe_call G_is_number (hr.mono (by decide)) (by rfl) Y.g_is_number Y.F_is_number.kp Y.b_is_number .nil pass0 (pa_cons (pe_ix ix_SEQ (pv 0) pe_int (fun _ _ => rfl)) (pa_cons pe_int (pa_cons (pe_cI (by rfl) Y.c_MOST_NUMBER) pa_nil)))) (pe_one (pe_call G_are_lines (hr.mono (by decide)) (by rfl) Y.g_are_lines Y.F_are_lines.kp Y.b_are_lines .nil pass0 (pa_cons (pe_ix ix_SEQ (pv 0) pe_int (fun _ _ => rfl)) (pa_cons (pe_call G_is_changes (hr.mono (by decide)) (by rfl) Y.g_is_changes Y.F_is_changes.kp Y.b_is_changes .nil pass0 (pa_cons (pe_ix ix_SEQ (pv 0) pe_int (fun _ _ => rfl)) pa_nil)) pa_nil)))))))) pss_nil)
    (pss_cons (ps_if (PW.pt (pw_or (pt_cmpR (op_NE (hu_64 hr)) (pe_ix ix_SEQ (pv 0) pe_int (fun _ _ => rfl)) pe_str (nomark _)) (pw_or1 (pt_cmpR (op_NE (hu_64 hr)) (pe_callB call_LEN (by rfl) Y.m_len (by decide +kernel) (pa_cons (pv 0) pa_nil)) pe_int (nomark _))))) (pss_one (ps_ret pe_bl)) pss_nil)
    (pss_cons (ps_asg (pe_slice sl_SEQ (pv 0) (po_some pe_int) po_none) (pg_tup rfl (pgs_cons (pg_name (i := 1) sc_is_letter.nd rfl (Or.inl rfl)) (pgs_cons (pg_name (i := 2) sc_is_letter.nd rfl (Or.inl rfl)) (pgs_cons (pg_name (i := 3) sc_is_letter.nd rfl (Or.inl rfl)) (pgs_cons (pg_name (i := 4) sc_is_letter.nd rfl (Or.inl rfl)) pgs_nil))))))
    (pss_cons (ps_if (PW.pt (pw_or (pt_not (pt_tru (pe_call G_is_number (hr.mono (by decide)) (by rfl) Y.g_is_number Y.F_is_number.kp Y.b_is_number .nil pass0 (pa_cons (pv 1) (pa_cons pe_int (pa_cons (pe_cI (by rfl) Y.c_MOST_NUMBER) pa_nil)))) (by intro _; rfl))) (pw_or1 (pt_not (pt_tru (pe_call G_is_number (hr.mono (by decide)) (by rfl) Y.g_is_number Y.F_is_number.kp Y.b_is_number .nil pass0 (pa_cons (pv 3) (pa_cons pe_int (pa_cons (pe_cI (by rfl) Y.c_MOST_PIECES) pa_nil)))) (by intro _; rfl)))))) (pss_one (ps_ret pe_bl)) pss_nil)
    (pss_one (ps_ret (pe_and (pe_call G_is_number (hr.mono (by decide)) (by rfl) Y.g_is_number Y.F_is_number.kp Y.b_is_number .nil pass0 (pa_cons (pv 2) (pa_cons pe_int (pa_cons (pe_op op_SUB (pv 3) pe_int) pa_nil)))) (pe_one (pe_call G_are_lines (hr.mono (by decide)) (by rfl) Y.g_are_lines Y.F_are_lines.kp Y.b_are_lines .nil pass0 (pa_cons (pv 4) (pa_cons (pe_call G_is_entries (hr.mono (by decide)) (by rfl) Y.g_is_entries Y.F_is_entries.kp Y.b_is_entries .nil pass0 (pa_cons (pv 4) pa_nil)) pa_nil)))))))))))))
def t_are_lines (K : PySem.W.Frag)  : TS :=
    (tSeq (tIfS (tNot (tTru1 K (tVar 1))) (tRet (tC (.bl false))) tNext)
    (tRet (tCB (rAll K) (tCons (tLc2 (iTup K (tVar 0)) (gName 2) tYes (iTup K (tVar 2)) (gName 3) (tTest (tOp (rISN K) (tVar 3) (tC .non))) (tOp rLE (tCB (rLEN K) (tCons (tVar 3) tNil)) (tC (.int 9999))) [2, 3] [3]) tNil))))
theorem b_are_lines (Y : Fx K mg)   {f : Addr} {cdv : Value} {A : Around} {outer : List Env} {s : Shared} {H : Hp} {E : XK} (hr : Room 0 (A.deeper (envOfC "are_lines" (defScope s_are_lines) s.heap.objs.size f cdv))) :
    PSs (cxOf CX0 P w K mg base ["rows", "are_right", "row", "text"] "are_lines" (defScope s_are_lines) f cdv A outer s H E).nox (defBody s_are_lines) (t_are_lines K ) :=
    (pss_cons (ps_if (pt_not (pt_tru (pv 1) (by intro _; rfl))) (pss_one (ps_ret pe_bl)) pss_nil)
    (pss_one (ps_ret (pe_callB (cr_all rfl) (by rfl) Y.m_all (by decide +kernel) (pa_cons (pe_lc2 (own := [("row", 2), ("text", 3)]) (vs1 := [3]) (by rfl) sc_are_lines.nd (pi_tup (pv 0)) (blkOk_by (own := [("row", 2), ("text", 3)]) (N := ["rows", "are_right", "row", "text"]) (sc := defScope s_are_lines) (by decide +kernel)) (by decide) (fun _ _ _ _ _ => (pg_name (i := 2) sc_are_lines.nd rfl (Or.inl rfl))) (fun _ _ _ _ _ => pts_nil) (fun _ _ _ _ _ => (pi_tup (pv 2))) (fun _ _ _ _ _ => (pg_name (i := 3) sc_are_lines.nd rfl (Or.inl rfl))) (fun _ _ _ _ _ => (pts_one (pt_cmpR op_ISN (pv 3) pe_non (nomark _)))) (fun _ _ _ _ _ => (pe_cmpR op_LE (pe_callB call_LEN (by rfl) Y.m_len (by decide +kernel) (pa_cons (pv 3) pa_nil)) (pe_cI (by rfl) Y.c_MOST_SIGNS) (nomark _)))) pa_nil)))))
def t_check_letter (K : PySem.W.Frag) {mg : Str → Option Value} (Y : Fx K mg) (E : XK) (sp_is_letter : PySem.W.Frag → Sp) : TS :=
    (tIfS (tNot (tTru1 K (tCall (sp_is_letter K) [] E0 (tCons (tVar 0) tNil)))) (tRaise (.ref Y.x_InvalidLetter) E) tNext)
theorem b_check_letter (Y : Fx K mg) {sp_is_letter : PySem.W.Frag → Sp} (G_is_letter : FnOk P w K mg base CX0 5 Y.a_is_letter Y.fd_is_letter ["value"] (sp_is_letter K)) {f : Addr} {cdv : Value} {A : Around} {outer : List Env} {s : Shared} {H : Hp} {E : XK} (hr : Room 5 (A.deeper (envOfC "check_letter" (defScope s_check_letter) s.heap.objs.size f cdv))) :
    PSs (cxOf (L2.CX P w) P w K mg base ["letter"] "check_letter" (defScope s_check_letter) f cdv A outer s H E) (defBody s_check_letter) (t_check_letter K Y E sp_is_letter) :=
    (pss_one (ps_if (pt_not (pt_tru (pe_call G_is_letter (hr.mono (by decide)) (by rfl) Y.g_is_letter Y.F_is_letter.kp Y.b_is_letter .nil pass0 (pa_cons (pv 0) pa_nil)) (by intro _; rfl))) (pss_one (ps_raiseE rfl (takes_of rfl rfl rfl rfl) PySem.F.excBase_ValueError Y.e_InvalidLetter Y.q_InvalidLetter Y.k_InvalidLetter (raises_own Y.s_InvalidLetter Y.t_InvalidLetter) (by rfl))) pss_nil))
def t_letter_text (K : PySem.W.Frag) (E : XK) (sp_change_text : PySem.W.Frag → Sp) (sp_check_letter : PySem.W.Frag → Sp) : TS :=
    (tSeq (tDrop (tCall (sp_check_letter K) [] E (tCons (tVar 0) tNil)))
    (tSeq (tIfS (tTest (tOp (rEQ K) (tOp (rIX K) (tVar 0) (tC (.int 0))) (tC (.str "none")))) (tRet (tC (.str "N"))) tNext)
    (tSeq (tAsg (tBM K "str" (rJoin K) (tC (.str "")) (tCons (tLc (iTup K (tOp (rIX K) (tVar 0) (tUn rNEG (tC (.int 1))))) (gName 2) tYes (tCall (sp_change_text K) [] E0 (tCons (tVar 2) tNil)) [2]) tNil)) (gName 1))
    (tSeq (tIfS (tTest (tOp (rEQ K) (tOp (rIX K) (tVar 0) (tC (.int 0))) (tC (.str "part")))) (tRet (fun σ H Q => tJs [(tC (.str "P")), (tFmt0 8 (tOp (rIX K) (tVar 0) (tC (.int 1)))), (tFmt (tVar 1))] Str.empty σ H fun out H1 => Q (.str out) H1)) tNext)
    (tRet (fun σ H Q => tJs [(tC (.str "S")), (tFmt0 8 (tOp (rIX K) (tVar 0) (tC (.int 1)))), (tFmt0 4 (tOp (rIX K) (tVar 0) (tC (.int 2)))), (tFmt0 4 (tOp (rIX K) (tVar 0) (tC (.int 3)))), (tFmt (tVar 1))] Str.empty σ H fun out H1 => Q (.str out) H1))))))
theorem b_letter_text (Y : Fx K mg) {sp_change_text : PySem.W.Frag → Sp} {sp_check_letter : PySem.W.Frag → Sp} (G_change_text : FnOk P w K mg base CX0 1 Y.a_change_text Y.fd_change_text ["change"] (sp_change_text K)) (G_check_letter : FnOk P w K mg base (L2.CX P w) 6 Y.a_check_letter Y.fd_check_letter ["letter"] (sp_check_letter K)) {f : Addr} {cdv : Value} {A : Around} {outer : List Env} {s : Shared} {H : Hp} {E : XK} (hr : Room 6 (A.deeper (envOfC "letter_text" (defScope s_letter_text) s.heap.objs.size f cdv))) :
    PSs (cxOf (L2.CX P w) P w K mg base ["letter", "rows", "row"] "letter_text" (defScope s_letter_text) f cdv A outer s H E) (defBody s_letter_text) (t_letter_text K E sp_change_text sp_check_letter) :=
    (pss_cons (ps_expr (pe_call G_check_letter (hr.mono (by decide)) (by rfl) Y.g_check_letter Y.F_check_letter.kp Y.b_check_letter .nil (passT (takes_of rfl rfl rfl rfl)) (pa_cons (pv 0) pa_nil)))
    (pss_cons (ps_if (pt_cmpR (op_EQ (hu_64 hr)) (pe_ix ix_SEQ (pv 0) pe_int (fun _ _ => rfl)) pe_str (nomark _)) (pss_one (ps_ret pe_str)) pss_nil)
    (pss_cons (ps_set (i := 1) sc_letter_text.nd rfl (Or.inl rfl) (pe_bm PySem.F.plainAttrs_str PySem.F.slot_str_join PySem.F.type_str_join mt_join pe_str (pa_cons (pe_lc (own := [("row", 2)]) (by rfl) sc_letter_text.nd (pi_tup (pe_ix ix_SEQ (pv 0) (pe_un un_NEG pe_int) (fun _ _ => rfl))) (blkOk_by (own := [("row", 2)]) (N := ["letter", "rows", "row"]) (sc := defScope s_letter_text) (by decide +kernel)) (fun _ _ _ _ _ => (pg_name (i := 2) sc_letter_text.nd rfl (Or.inl rfl))) (fun _ _ _ _ _ => pts_nil) (fun _ _ _ _ _ => (pe_call G_change_text (hr.mono (by decide)) (by rfl) Y.g_change_text Y.F_change_text.kp Y.b_change_text .nil pass0 (pa_cons (pv 2) pa_nil)))) pa_nil)))
    (pss_cons (ps_if (pt_cmpR (op_EQ (hu_64 hr)) (pe_ix ix_SEQ (pv 0) pe_int (fun _ _ => rfl)) pe_str (nomark _)) (pss_one (ps_ret (pe_joined (PJ.cons pe_str (PJ.cons (pe_fmt0 8 (pe_ix ix_SEQ (pv 0) pe_int (fun _ _ => rfl))) (PJ.cons (pe_fmt (pv 1)) PJ.nil)))))) pss_nil)
    (pss_one (ps_ret (pe_joined (PJ.cons pe_str (PJ.cons (pe_fmt0 8 (pe_ix ix_SEQ (pv 0) pe_int (fun _ _ => rfl))) (PJ.cons (pe_fmt0 4 (pe_ix ix_SEQ (pv 0) pe_int (fun _ _ => rfl))) (PJ.cons (pe_fmt0 4 (pe_ix ix_SEQ (pv 0) pe_int (fun _ _ => rfl))) (PJ.cons (pe_fmt (pv 1)) PJ.nil))))))))))))
def t_letter_told (K : PySem.W.Frag) (E : XK) (sp_check_letter : PySem.W.Frag → Sp) (sp_check_text : PySem.W.Frag → Sp) (sp_letter_from : PySem.W.Frag → Sp) : TS :=
    (tSeq (tDrop (tCall (sp_check_text K) [] E (tCons (tVar 0) tNil)))
    (tSeq (tAsg (tCall (sp_letter_from K) [] E0 (tCons (tVar 0) tNil)) (gName 1))
    (tSeq (tDrop (tCall (sp_check_letter K) [] E (tCons (tVar 1) tNil)))
    (tRet (tVar 1)))))
theorem b_letter_told (Y : Fx K mg) {sp_check_letter : PySem.W.Frag → Sp} {sp_check_text : PySem.W.Frag → Sp} {sp_letter_from : PySem.W.Frag → Sp} (G_check_letter : FnOk P w K mg base (L2.CX P w) 6 Y.a_check_letter Y.fd_check_letter ["letter"] (sp_check_letter K)) (G_check_text : FnOk P w K mg base (L2.CX P w) 2 Y.a_check_text Y.fd_check_text ["text"] (sp_check_text K)) (G_letter_from : FnOk P w K mg base CX0 5 Y.a_letter_from Y.fd_letter_from ["text"] (sp_letter_from K)) {f : Addr} {cdv : Value} {A : Around} {outer : List Env} {s : Shared} {H : Hp} {E : XK} (hr : Room 6 (A.deeper (envOfC "letter_told" (defScope s_letter_told) s.heap.objs.size f cdv))) :
    PSs (cxOf (L2.CX P w) P w K mg base ["text", "letter"] "letter_told" (defScope s_letter_told) f cdv A outer s H E) (defBody s_letter_told) (t_letter_told K E sp_check_letter sp_check_text sp_letter_from) :=
    (pss_cons (ps_expr (pe_call G_check_text (hr.mono (by decide)) (by rfl) Y.g_check_text Y.F_check_text.kp Y.b_check_text .nil (passT (takes_of rfl rfl rfl rfl)) (pa_cons (pv 0) pa_nil)))
    (pss_cons (ps_set (i := 1) sc_letter_told.nd rfl (Or.inl rfl) (pe_call G_letter_from (hr.mono (by decide)) (by rfl) Y.g_letter_from Y.F_letter_from.kp Y.b_letter_from .nil pass0 (pa_cons (pv 0) pa_nil)))
    (pss_cons (ps_expr (pe_call G_check_letter (hr.mono (by decide)) (by rfl) Y.g_check_letter Y.F_check_letter.kp Y.b_check_letter .nil (passT (takes_of rfl rfl rfl rfl)) (pa_cons (pv 1) pa_nil)))
    (pss_one (ps_ret (pv 1))))))
def t_letter_from (K : PySem.W.Frag) (sp_changes_told : PySem.W.Frag → Sp) (sp_number_at : PySem.W.Frag → Sp) : TS :=
    (tSeq (tIfS (tTest (tOp (rEQ K) (tSl (rSL K) (tVar 0) tNoPart (tPart (tC (.int 1)))) (tC (.str "P")))) (tRet (tTup (tCons (tC (.str "part")) (tCons (tCall (sp_number_at K) [] E0 (tCons (tVar 0) (tCons (tC (.int 1)) (tCons (tC (.int 8)) tNil)))) (tCons (tCall (sp_changes_told K) [] E0 (tCons (tVar 0) (tCons (tC (.int 9)) tNil))) tNil))))) tNext)
    (tSeq (tIfS (tTest (tOp (rEQ K) (tSl (rSL K) (tVar 0) tNoPart (tPart (tC (.int 1)))) (tC (.str "S")))) (tRet (tTup (tCons (tC (.str "piece")) (tCons (tCall (sp_number_at K) [] E0 (tCons (tVar 0) (tCons (tC (.int 1)) (tCons (tC (.int 8)) tNil)))) (tCons (tCall (sp_number_at K) [] E0 (tCons (tVar 0) (tCons (tC (.int 9)) (tCons (tC (.int 4)) tNil)))) (tCons (tCall (sp_number_at K) [] E0 (tCons (tVar 0) (tCons (tC (.int 13)) (tCons (tC (.int 4)) tNil)))) (tCons (tCall (sp_changes_told K) [] E0 (tCons (tVar 0) (tCons (tC (.int 17)) tNil))) tNil))))))) tNext)
    (tRet (tIf (tTest (tOp (rEQ K) (tVar 0) (tC (.str "N")))) (tTup (tCons (tC (.str "none")) tNil)) (tC .non)))))
theorem b_letter_from (Y : Fx K mg) {sp_changes_told : PySem.W.Frag → Sp} {sp_number_at : PySem.W.Frag → Sp} (G_changes_told : FnOk P w K mg base CX0 4 Y.a_changes_told Y.fd_changes_told ["text", "at"] (sp_changes_told K)) (G_number_at : FnOk P w K mg base CX0 1 Y.a_number_at Y.fd_number_at ["text", "at", "size"] (sp_number_at K)) {f : Addr} {cdv : Value} {A : Around} {outer : List Env} {s : Shared} {H : Hp} {E : XK} (hr : Room 4 (A.deeper (envOfC "letter_from" (defScope s_letter_from) s.heap.objs.size f cdv))) :
    PSs (cxOf CX0 P w K mg base ["text"] "letter_from" (defScope s_letter_from) f cdv A outer s H E).nox (defBody s_letter_from) (t_letter_from K sp_changes_told sp_number_at) :=
    (pss_cons (ps_if (pt_cmpR (op_EQ (hu_64 hr)) (pe_slice sl_SEQ (pv 0) po_none (po_some pe_int)) pe_str (nomark _)) (pss_one (ps_ret (pe_tup (pa_cons pe_str (pa_cons (pe_call G_number_at (hr.mono (by decide)) (by rfl) Y.g_number_at Y.F_number_at.kp Y.b_number_at .nil pass0 (pa_cons (pv 0) (pa_cons pe_int (pa_cons pe_int pa_nil)))) (pa_cons (pe_call G_changes_told (hr.mono (by decide)) (by rfl) Y.g_changes_told Y.F_changes_told.kp Y.b_changes_told .nil pass0 (pa_cons (pv 0) (pa_cons pe_int pa_nil))) pa_nil)))))) pss_nil)
    (pss_cons (ps_if (pt_cmpR (op_EQ (hu_64 hr)) (pe_slice sl_SEQ (pv 0) po_none (po_some pe_int)) pe_str (nomark _)) (pss_one (ps_ret (pe_tup (pa_cons pe_str (pa_cons (pe_call G_number_at (hr.mono (by decide)) (by rfl) Y.g_number_at Y.F_number_at.kp Y.b_number_at .nil pass0 (pa_cons (pv 0) (pa_cons pe_int (pa_cons pe_int pa_nil)))) (pa_cons (pe_call G_number_at (hr.mono (by decide)) (by rfl) Y.g_number_at Y.F_number_at.kp Y.b_number_at .nil pass0 (pa_cons (pv 0) (pa_cons pe_int (pa_cons pe_int pa_nil)))) (pa_cons (pe_call G_number_at (hr.mono (by decide)) (by rfl) Y.g_number_at Y.F_number_at.kp Y.b_number_at .nil pass0 (pa_cons (pv 0) (pa_cons pe_int (pa_cons pe_int pa_nil)))) (pa_cons (pe_call G_changes_told (hr.mono (by decide)) (by rfl) Y.g_changes_told Y.F_changes_told.kp Y.b_changes_told .nil pass0 (pa_cons (pv 0) (pa_cons pe_int pa_nil))) pa_nil)))))))) pss_nil)
    (pss_one (ps_ret (pe_ifExp (pt_cmpR (op_EQ (hu_64 hr)) (pv 0) pe_str (nomark _)) (pe_tup (pa_cons pe_str pa_nil)) pe_non)))))
def t__law_well (K : PySem.W.Frag)  : TS :=
    (tSeq (tAsg (tCB rINT (tCons (tVar 0) tNil)) (gName 1))
    (tRet (tLst (tCons (tCB rMAX2 (tCons (tC (.int 0)) (tCons (tOp rSUB (tCB rABS (tCons (tVar 1) tNil)) (tOp rPOW (tC (.int 10)) (tC (.int 18)))) tNil))) (tCons (tOp rMOD (tCB rINT (tCons (tOp (rADD K) (tOp (rMUL K) (tVar 1) (tC (.int 7129))) (tC (.int 60013))) tNil)) (tC (.int 2147483489))) (tCons (tC (.int 0)) tNil))))))
theorem b__law_well (Y : Fx K mg)   {f : Addr} {cdv : Value} {A : Around} {outer : List Env} {s : Shared} {H : Hp} {E : XK} (hr : Room 0 (A.deeper (envOfC "_law_well" (defScope s__law_well) s.heap.objs.size f cdv))) :
    PSs (cxOf CX0 P w K mg base ["_law_cell", "_law_number_here"] "_law_well" (defScope s__law_well) f cdv A outer s H E).nox (defBody s__law_well) (t__law_well K ) :=
    (pss_cons (ps_set (i := 1) sc__law_well.nd rfl (Or.inl rfl) (pe_callTy call_INT (by rfl) Y.m_int (by decide +kernel) (pa_cons (pv 0) pa_nil)))
    (pss_one (ps_ret (pe_lst (pa_cons (pe_callB (call_MAX2 rfl) (by rfl) Y.m_max (by decide +kernel) (pa_cons pe_int (pa_cons (pe_op op_SUB (pe_callB call_ABS (by rfl) Y.m_abs (by decide +kernel) (pa_cons (pv 1) pa_nil)) (pe_op op_POW pe_int pe_int)) pa_nil))) (pa_cons (pe_op op_MOD (pe_callTy call_INT (by rfl) Y.m_int (by decide +kernel) (pa_cons (pe_op op_ADD (pe_op op_MUL (pv 1) pe_int) pe_int) pa_nil)) pe_int) (pa_cons pe_int pa_nil)))))))
def t__law_draw (K : PySem.W.Frag)  : TS :=
    (tSeq (tAsg (tOp (rIX K) (tVar 0) (tC (.int 0))) (gName 2))
    (tSeq (tAsg (tOp (rADD K) (tOp (rIX K) (tVar 0) (tC (.int 2))) (tC (.int 1))) (gSub (tVar 0) (tC (.int 2)) rSetL))
    (tSeq (tAsg (tOp rMOD (tCB rINT (tCons (tOp (rADD K) (tOp (rADD K) (tOp (rMUL K) (tOp (rIX K) (tVar 0) (tC (.int 1))) (tC (.int 16807))) (tOp (rMUL K) (tOp (rIX K) (tVar 0) (tC (.int 2))) (tC (.int 127)))) (tC (.int 3))) tNil)) (tC (.int 2147483489))) (gSub (tVar 0) (tC (.int 1)) rSetL))
    (tSeq (tIfS (tTest (tOp rGT (tVar 2) (tC (.int 0)))) (tSeq (tAsg (tOp rFDIV (tVar 2) (tVar 1)) (gSub (tVar 0) (tC (.int 0)) rSetL))
      (tRet (tOp rMOD (tCB rINT (tCons (tVar 2) tNil)) (tVar 1)))) tNext)
    (tRet (tOp rMOD (tCB rINT (tCons (tOp rFDIV (tOp (rMUL K) (tOp (rIX K) (tVar 0) (tC (.int 1))) (tOp (rADD K) (tOp rFDIV (tOp (rIX K) (tVar 0) (tC (.int 1))) (tC (.int 53))) (tC (.int 19)))) (tC (.int 7919))) tNil)) (tVar 1)))))))
theorem b__law_draw (Y : Fx K mg)   {f : Addr} {cdv : Value} {A : Around} {outer : List Env} {s : Shared} {H : Hp} {E : XK} (hr : Room 0 (A.deeper (envOfC "_law_draw" (defScope s__law_draw) s.heap.objs.size f cdv))) :
    PSs (cxOf CX0 P w K mg base ["_law_well_here", "_law_many", "_law_full"] "_law_draw" (defScope s__law_draw) f cdv A outer s H E).nox (defBody s__law_draw) (t__law_draw K ) :=
    (pss_cons (ps_set (i := 2) sc__law_draw.nd rfl (Or.inl rfl) (pe_ix ix_SEQ (pv 0) pe_int (fun _ _ => rfl)))
    (pss_cons (ps_asg (pe_op op_ADD (pe_ix ix_SEQ (pv 0) pe_int (fun _ _ => rfl)) pe_int) (pg_sub (pv 0) pe_int set_list))
    (pss_cons (ps_asg (pe_op op_MOD (pe_callTy call_INT (by rfl) Y.m_int (by decide +kernel) (pa_cons (pe_op op_ADD (pe_op op_ADD (pe_op op_MUL (pe_ix ix_SEQ (pv 0) pe_int (fun _ _ => rfl)) pe_int) (pe_op op_MUL (pe_ix ix_SEQ (pv 0) pe_int (fun _ _ => rfl)) pe_int)) pe_int) pa_nil)) pe_int) (pg_sub (pv 0) pe_int set_list))
    (pss_cons (ps_if (pt_cmpR op_GT (pv 2) pe_int (nomark _)) (pss_cons (ps_asg (pe_op op_FDIV (pv 2) (pv 1)) (pg_sub (pv 0) pe_int set_list))
      (pss_one (ps_ret (pe_op op_MOD (pe_callTy call_INT (by rfl) Y.m_int (by decide +kernel) (pa_cons (pv 2) pa_nil)) (pv 1))))) pss_nil)
    (pss_one (ps_ret (pe_op op_MOD (pe_callTy call_INT (by rfl) Y.m_int (by decide +kernel) (pa_cons (pe_op op_FDIV (pe_op op_MUL (pe_ix ix_SEQ (pv 0) pe_int (fun _ _ => rfl)) (pe_op op_ADD (pe_op op_FDIV (pe_ix ix_SEQ (pv 0) pe_int (fun _ _ => rfl)) pe_int) pe_int)) pe_int) pa_nil)) (pv 1))))))))
def t__law_same (K : PySem.W.Frag) (sp__law_same : PySem.W.Frag → Sp) : TS :=
    (tSeq (tIfS (tTest (tOp (rIS K) (tVar 1) (tC .non))) (tRet (tOp (rIS K) (tVar 0) (tC .non))) tNext)
    (tSeq (tIfS (tOr (tTest (tOp (rIS K) (tVar 1) (tC (.bl true)))) (tTest (tOp (rIS K) (tVar 1) (tC (.bl false))))) (tRet (tIf (tTru1 K (tVar 1)) (tOp (rIS K) (tVar 0) (tC (.bl true))) (tOp (rIS K) (tVar 0) (tC (.bl false))))) tNext)
    (tSeq (tIfS (tTru1 K (tCB (rISI K) (tCons (tVar 1) (tCons (tC (.ty "str")) tNil)))) (tRet (tAndV (tCB (rISI K) (tCons (tVar 0) (tCons (tC (.ty "str")) tNil))) (tOp (rEQ K) (tVar 0) (tVar 1)))) tNext)
    (tSeq (tIfS (tOr (tTru1 K (tCB (rISI K) (tCons (tVar 1) (tCons (tC (.ty "tuple")) tNil)))) (tTru1 K (tCB (rISI K) (tCons (tVar 1) (tCons (tC (.ty "list")) tNil))))) (tSeq (tIfS (tOr (tTest (tOp (rNE K) (tCB (rISI K) (tCons (tVar 0) (tCons (tC (.ty "tuple")) tNil))) (tCB (rISI K) (tCons (tVar 1) (tCons (tC (.ty "tuple")) tNil))))) (tTest (tOp (rNE K) (tCB (rISI K) (tCons (tVar 0) (tCons (tC (.ty "list")) tNil))) (tCB (rISI K) (tCons (tVar 1) (tCons (tC (.ty "list")) tNil)))))) (tRet (tC (.bl false))) tNext)
      (tRet (tAndV (tOp (rEQ K) (tCB (rLEN K) (tCons (tVar 0) tNil)) (tCB (rLEN K) (tCons (tVar 1) tNil))) (tOp (rEQ K) (tLc (iRng1 (tCons (tCB (rLEN K) (tCons (tVar 1) tNil)) tNil)) (gName 2) (tNot (tTru1 K (tCall (sp__law_same K) [] E0 (tCons (tOp (rIX K) (tVar 0) (tVar 2)) (tCons (tOp (rIX K) (tVar 1) (tVar 2)) tNil))))) (tVar 2) [2]) (tLst tNil))))) tNext)
    (tRet (tAndV (tCB (rISI K) (tCons (tVar 0) (tCons (tC (.ty "int")) tNil))) (tAndV (tOp (rISN K) (tVar 0) (tC (.bl true))) (tAndV (tOp (rISN K) (tVar 0) (tC (.bl false))) (tOp (rEQ K) (tVar 0) (tVar 1))))))))))
theorem b__law_same {n : Nat} (Y : Fx K mg) {sp__law_same : PySem.W.Frag → Sp} (G__law_same : FnOk P w K mg base CX0 n Y.a__law_same Y.fd__law_same ["_law_found", "_law_due"] (sp__law_same K)) {f : Addr} {cdv : Value} {A : Around} {outer : List Env} {s : Shared} {H : Hp} {E : XK} (hn : 0 ≤ n) (hr : Room n (A.deeper (envOfC "_law_same" (defScope s__law_same) s.heap.objs.size f cdv))) :
    PSs (cxOf CX0 P w K mg base ["_law_found", "_law_due", "_law_k"] "_law_same" (defScope s__law_same) f cdv A outer s H E).nox (defBody s__law_same) (t__law_same K sp__law_same) :=
    (pss_cons (ps_if (pt_cmpR op_IS (pv 1) pe_non (nomark _)) (pss_one (ps_ret (pe_cmpR op_IS (pv 0) pe_non (nomark _)))) pss_nil)
    (pss_cons (ps_if (PW.pt (pw_or (pt_cmpR op_IS (pv 1) pe_bl (nomark _)) (pw_or1 (pt_cmpR op_IS (pv 1) pe_bl (nomark _))))) (pss_one (ps_ret (pe_ifExp (pt_tru (pv 1) (by intro _; rfl)) (pe_cmpR op_IS (pv 0) pe_bl (nomark _)) (pe_cmpR op_IS (pv 0) pe_bl (nomark _))))) pss_nil)
    (pss_cons (ps_if (pt_tru (pe_callB call_ISI (by rfl) Y.m_isinstance (by decide +kernel) (pa_cons (pv 1) (pa_cons (pe_bltn (v := .ty "str") (by rfl) Y.m_str (by decide +kernel) rfl) pa_nil))) (by intro _; rfl)) (pss_one (ps_ret (pe_and (pe_callB call_ISI (by rfl) Y.m_isinstance (by decide +kernel) (pa_cons (pv 0) (pa_cons (pe_bltn (v := .ty "str") (by rfl) Y.m_str (by decide +kernel) rfl) pa_nil))) (pe_one (pe_cmpR (op_EQ (hu_64 hr)) (pv 0) (pv 1) (nomark _)))))) pss_nil)
    (pss_cons (ps_if (PW.pt (pw_or (pt_tru (pe_callB call_ISI (by rfl) Y.m_isinstance (by decide +kernel) (pa_cons (pv 1) (pa_cons (pe_bltn (v := .ty "tuple") (by rfl) Y.m_tuple (by decide +kernel) rfl) pa_nil))) (by intro _; rfl)) (pw_or1 (pt_tru (pe_callB call_ISI (by rfl) Y.m_isinstance (by decide +kernel) (pa_cons (pv 1) (pa_cons (pe_bltn (v := .ty "list") (by rfl) Y.m_list (by decide +kernel) rfl) pa_nil))) (by intro _; rfl))))) (pss_cons (ps_if (PW.pt (pw_or (pt_cmpR (op_NE (hu_64 hr)) (pe_callB call_ISI (by rfl) Y.m_isinstance (by decide +kernel) (pa_cons (pv 0) (pa_cons (pe_bltn (v := .ty "tuple") (by rfl) Y.m_tuple (by decide +kernel) rfl) pa_nil))) (pe_callB call_ISI (by rfl) Y.m_isinstance (by decide +kernel) (pa_cons (pv 1) (pa_cons (pe_bltn (v := .ty "tuple") (by rfl) Y.m_tuple (by decide +kernel) rfl) pa_nil))) (nomark _)) (pw_or1 (pt_cmpR (op_NE (hu_64 hr)) (pe_callB call_ISI (by rfl) Y.m_isinstance (by decide +kernel) (pa_cons (pv 0) (pa_cons (pe_bltn (v := .ty "list") (by rfl) Y.m_list (by decide +kernel) rfl) pa_nil))) (pe_callB call_ISI (by rfl) Y.m_isinstance (by decide +kernel) (pa_cons (pv 1) (pa_cons (pe_bltn (v := .ty "list") (by rfl) Y.m_list (by decide +kernel) rfl) pa_nil))) (nomark _))))) (pss_one (ps_ret pe_bl)) pss_nil)
      (pss_one (ps_ret (pe_and (pe_cmpR (op_EQ (hu_64 hr)) (pe_callB call_LEN (by rfl) Y.m_len (by decide +kernel) (pa_cons (pv 0) pa_nil)) (pe_callB call_LEN (by rfl) Y.m_len (by decide +kernel) (pa_cons (pv 1) pa_nil)) (nomark _)) (pe_one (pe_cmpR (op_EQ (hu_64 hr)) (pe_lc (own := [("_law_k", 2)]) (by rfl) sc__law_same.nd (pi_range1 (by rfl) Y.m_range (pa_cons (pe_callB call_LEN (by rfl) Y.m_len (by decide +kernel) (pa_cons (pv 1) pa_nil)) pa_nil)) (blkOk_by (own := [("_law_k", 2)]) (N := ["_law_found", "_law_due", "_law_k"]) (sc := defScope s__law_same) (by decide +kernel)) (fun _ _ _ _ _ => (pg_name (i := 2) sc__law_same.nd rfl (Or.inl rfl))) (fun _ _ _ _ _ => (pts_one (pt_not (pt_tru (pe_call G__law_same hr (by rfl) Y.g__law_same Y.F__law_same.kp Y.b__law_same .nil pass0 (pa_cons (pe_ix ix_SEQ (pv 0) (pv 2) (fun _ _ => rfl)) (pa_cons (pe_ix ix_SEQ (pv 1) (pv 2) (fun _ _ => rfl)) pa_nil))) (by intro _; rfl))))) (fun _ _ _ _ _ => (pv 2))) (pe_lst pa_nil) (nomark _))))))) pss_nil)
    (pss_one (ps_ret (pe_and (pe_callB call_ISI (by rfl) Y.m_isinstance (by decide +kernel) (pa_cons (pv 0) (pa_cons (pe_bltn (v := .ty "int") (by rfl) Y.m_int (by decide +kernel) rfl) pa_nil))) (pe_and (pe_cmpR op_ISN (pv 0) pe_bl (nomark _)) (pe_and (pe_cmpR op_ISN (pv 0) pe_bl (nomark _)) (pe_one (pe_cmpR (op_EQ (hu_64 hr)) (pv 0) (pv 1) (nomark _))))))))))))
def t__law_sign (K : PySem.W.Frag) (sp__law_draw : PySem.W.Frag → Sp) : TS :=
    (tSeq (tAsg (tC (.str " !\"#$&'()*+,-./0123456789:;<=>?@ABCDEFGHIJKLMNOPQRSTUVWXYZ[\\]^_`")) (gName 1))
    (tSeq (tAsg (tOp (rADD K) (tVar 1) (tC (.str "abcdefghijklmnopqrstuvwxyz{|}~"))) (gName 1))
    (tRet (tOp (rIX K) (tVar 1) (tCall (sp__law_draw K) [] E0 (tCons (tVar 0) (tCons (tCB (rLEN K) (tCons (tVar 1) tNil)) tNil)))))))
theorem b__law_sign (Y : Fx K mg) {sp__law_draw : PySem.W.Frag → Sp} (G__law_draw : FnOk P w K mg base CX0 1 Y.a__law_draw Y.fd__law_draw ["_law_well_here", "_law_many"] (sp__law_draw K)) {f : Addr} {cdv : Value} {A : Around} {outer : List Env} {s : Shared} {H : Hp} {E : XK} (hr : Room 1 (A.deeper (envOfC "_law_sign" (defScope s__law_sign) s.heap.objs.size f cdv))) :
    PSs (cxOf CX0 P w K mg base ["_law_well_here", "_law_some"] "_law_sign" (defScope s__law_sign) f cdv A outer s H E).nox (defBody s__law_sign) (t__law_sign K sp__law_draw) :=
    (pss_cons (ps_set (i := 1) sc__law_sign.nd rfl (Or.inl rfl) pe_str)
    (pss_cons (ps_set (i := 1) sc__law_sign.nd rfl (Or.inl rfl) (pe_op op_ADD (pv 1) pe_str))
    (pss_one (ps_ret (pe_ix ix_SEQ (pv 1) (pe_call G__law_draw (hr.mono (by decide)) (by rfl) Y.g__law_draw Y.F__law_draw.kp Y.b__law_draw .nil pass0 (pa_cons (pv 0) (pa_cons (pe_callB call_LEN (by rfl) Y.m_len (by decide +kernel) (pa_cons (pv 1) pa_nil)) pa_nil))) (fun _ _ => rfl))))))
def t__law_text (K : PySem.W.Frag) (sp__law_draw : PySem.W.Frag → Sp) (sp__law_sign : PySem.W.Frag → Sp) : TS :=
    (tRet (tBM K "str" (rJoin K) (tC (.str "")) (tCons (tLc (iRng1 (tCons (tCall (sp__law_draw K) [] E0 (tCons (tVar 0) (tCons (tOp (rADD K) (tVar 1) (tC (.int 1))) tNil))) tNil)) (gName 2) tYes (tCall (sp__law_sign K) [] E0 (tCons (tVar 0) tNil)) [2]) tNil)))
theorem b__law_text (Y : Fx K mg) {sp__law_draw : PySem.W.Frag → Sp} {sp__law_sign : PySem.W.Frag → Sp} (G__law_draw : FnOk P w K mg base CX0 1 Y.a__law_draw Y.fd__law_draw ["_law_well_here", "_law_many"] (sp__law_draw K)) (G__law_sign : FnOk P w K mg base CX0 2 Y.a__law_sign Y.fd__law_sign ["_law_well_here"] (sp__law_sign K)) {f : Addr} {cdv : Value} {A : Around} {outer : List Env} {s : Shared} {H : Hp} {E : XK} (hr : Room 2 (A.deeper (envOfC "_law_text" (defScope s__law_text) s.heap.objs.size f cdv))) :
    PSs (cxOf CX0 P w K mg base ["_law_well_here", "_law_most", "_law_k"] "_law_text" (defScope s__law_text) f cdv A outer s H E).nox (defBody s__law_text) (t__law_text K sp__law_draw sp__law_sign) :=
    (pss_one (ps_ret (pe_bm PySem.F.plainAttrs_str PySem.F.slot_str_join PySem.F.type_str_join mt_join pe_str (pa_cons (pe_lc (own := [("_law_k", 2)]) (by rfl) sc__law_text.nd (pi_range1 (by rfl) Y.m_range (pa_cons (pe_call G__law_draw (hr.mono (by decide)) (by rfl) Y.g__law_draw Y.F__law_draw.kp Y.b__law_draw .nil pass0 (pa_cons (pv 0) (pa_cons (pe_op op_ADD (pv 1) pe_int) pa_nil))) pa_nil)) (blkOk_by (own := [("_law_k", 2)]) (N := ["_law_well_here", "_law_most", "_law_k"]) (sc := defScope s__law_text) (by decide +kernel)) (fun _ _ _ _ _ => (pg_name (i := 2) sc__law_text.nd rfl (Or.inl rfl))) (fun _ _ _ _ _ => pts_nil) (fun _ _ _ _ _ => (pe_call G__law_sign (hr.mono (by decide)) (by rfl) Y.g__law_sign Y.F__law_sign.kp Y.b__law_sign .nil pass0 (pa_cons (pv 0) pa_nil)))) pa_nil))))
def t__law_changes (K : PySem.W.Frag) (sp__law_draw : PySem.W.Frag → Sp) (sp__law_text : PySem.W.Frag → Sp) : TS :=
    (tSeq (tAsg tDNewK (gName 3))
    (tSeq (tAsg (tOp (rIX K) (tLst (tCons (tC (.str "")) (tCons (tC (.str "a")) (tCons (tC (.str "b ")) (tCons (tC (.str "~")) tNil))))) (tCall (sp__law_draw K) [] E0 (tCons (tVar 0) (tCons (tC (.int 4)) tNil)))) (gName 4))
    (tSeq (tFor (iRng1 (tCons (tOp (rADD K) (tVar 1) (tCall (sp__law_draw K) [] E0 (tCons (tVar 0) (tCons (tOp (rADD K) (tOp rSUB (tVar 2) (tVar 1)) (tC (.int 1))) tNil)))) tNil)) (gName 5) (tSeq (tAsg (tOp (rADD K) (tOp (rIX K) (tLst (tCons (tVar 4) (tCons (tC (.str "")) tNil))) (tCall (sp__law_draw K) [] E0 (tCons (tVar 0) (tCons (tC (.int 2)) tNil)))) (tCall (sp__law_text K) [] E0 (tCons (tVar 0) (tCons (tC (.int 4)) tNil)))) (gName 6))
      (Evl.tCut (tIfS (tTest (tOp rLT (tVar 5) (tVar 1))) (tAsg (tOp (rADD K) (tVar 6) (tCB rSTR (tCons (tVar 5) tNil))) (gName 6)) tNext)
      (sDPut (tVar 3) (tVar 6) (tOp (rIX K) (tLst (tCons (tC .non) (tCons (tCall (sp__law_text K) [] E0 (tCons (tVar 0) (tCons (tC (.int 6)) tNil))) (tCons (tC (.str "")) tNil)))) (tCall (sp__law_draw K) [] E0 (tCons (tVar 0) (tCons (tC (.int 3)) tNil))))))))
    (tRet (tCB (rTUPLE K) (tCons (tLc (iList K (tCB rSortD (tCons (tVar 3) tNil))) (gName 6) tYes (tTup (tCons (tVar 6) (tCons (tDGet (tVar 3) (tVar 6)) tNil))) [6]) tNil))))))
theorem b__law_changes (Y : Fx K mg) {sp__law_draw : PySem.W.Frag → Sp} {sp__law_text : PySem.W.Frag → Sp} (G__law_draw : FnOk P w K mg base CX0 1 Y.a__law_draw Y.fd__law_draw ["_law_well_here", "_law_many"] (sp__law_draw K)) (G__law_text : FnOk P w K mg base CX0 3 Y.a__law_text Y.fd__law_text ["_law_well_here", "_law_most"] (sp__law_text K)) {f : Addr} {cdv : Value} {A : Around} {outer : List Env} {s : Shared} {H : Hp} {E : XK} (hr : Room 3 (A.deeper (envOfC "_law_changes" (defScope s__law_changes) s.heap.objs.size f cdv))) :
    PSs (cxOf CX0 P w K mg base ["_law_well_here", "_law_least", "_law_most", "_law_found", "_law_front", "_law_k", "_law_key"] "_law_changes" (defScope s__law_changes) f cdv A outer s H E).nox (defBody s__law_changes) (t__law_changes K sp__law_draw sp__law_text) :=
    (pss_cons (ps_set (i := 3) sc__law_changes.nd rfl (Or.inr rfl) pe_dnewK)
    (pss_cons (ps_set (i := 4) sc__law_changes.nd rfl (Or.inl rfl) (pe_ix ix_SEQ (pe_lst (pa_cons pe_str (pa_cons pe_str (pa_cons pe_str (pa_cons pe_str pa_nil))))) (pe_call G__law_draw (hr.mono (by decide)) (by rfl) Y.g__law_draw Y.F__law_draw.kp Y.b__law_draw .nil pass0 (pa_cons (pv 0) (pa_cons pe_int pa_nil))) (fun _ _ => rfl)))
    (pss_cons (ps_for PassesOwn.never rfl (pi_range1 (by rfl) Y.m_range (pa_cons (pe_op op_ADD (pv 1) (pe_call G__law_draw (hr.mono (by decide)) (by rfl) Y.g__law_draw Y.F__law_draw.kp Y.b__law_draw .nil pass0 (pa_cons (pv 0) (pa_cons (pe_op op_ADD (pe_op op_SUB (pv 2) (pv 1)) pe_int) pa_nil)))) pa_nil)) (pg_name (i := 5) sc__law_changes.nd rfl (Or.inl rfl)) (pss_cons (ps_set (i := 6) sc__law_changes.nd rfl (Or.inl rfl) (pe_op op_ADD (pe_ix ix_SEQ (pe_lst (pa_cons (pv 4) (pa_cons pe_str pa_nil))) (pe_call G__law_draw (hr.mono (by decide)) (by rfl) Y.g__law_draw Y.F__law_draw.kp Y.b__law_draw .nil pass0 (pa_cons (pv 0) (pa_cons pe_int pa_nil))) (fun _ _ => rfl)) (pe_call G__law_text (hr.mono (by decide)) (by rfl) Y.g__law_text Y.F__law_text.kp Y.b__law_text .nil pass0 (pa_cons (pv 0) (pa_cons pe_int pa_nil)))))
      (Evl.pss_cut (ps_if (pt_cmpR op_LT (pv 5) (pv 1) (nomark _)) (pss_one (ps_set (i := 6) sc__law_changes.nd rfl (Or.inl rfl) (pe_op op_ADD (pv 6) (pe_callTy call_STR (by rfl) Y.m_str (by decide +kernel) (pa_cons (pv 5) pa_nil))))) pss_nil)
      (pss_one (ps_dput (hu_of hr) (pv 3) (pv 6) (pe_ix ix_SEQ (pe_lst (pa_cons pe_non (pa_cons (pe_call G__law_text (hr.mono (by decide)) (by rfl) Y.g__law_text Y.F__law_text.kp Y.b__law_text .nil pass0 (pa_cons (pv 0) (pa_cons pe_int pa_nil))) (pa_cons pe_str pa_nil)))) (pe_call G__law_draw (hr.mono (by decide)) (by rfl) Y.g__law_draw Y.F__law_draw.kp Y.b__law_draw .nil pass0 (pa_cons (pv 0) (pa_cons pe_int pa_nil))) (fun _ _ => rfl)) (by rfl))))))
    (pss_one (ps_ret (pe_callTy call_TUPLE (by rfl) Y.m_tuple (by decide +kernel) (pa_cons (pe_lc (own := [("_law_key", 6)]) (by rfl) sc__law_changes.nd (pi_list (pe_callB (call_SORTD rfl) (by rfl) Y.m_sorted (by decide +kernel) (pa_cons (pv 3) pa_nil))) (blkOk_by (own := [("_law_key", 6)]) (N := ["_law_well_here", "_law_least", "_law_most", "_law_found", "_law_front", "_law_k", "_law_key"]) (sc := defScope s__law_changes) (by decide +kernel)) (fun _ _ _ _ _ => (pg_name (i := 6) sc__law_changes.nd rfl (Or.inl rfl))) (fun _ _ _ _ _ => pts_nil) (fun _ _ _ _ _ => (pe_tup (pa_cons (pv 6) (pa_cons (pe_dget (hu_of hr) (pv 3) (pv 6) (fun _ _ => rfl)) pa_nil))))) pa_nil)))))))
def t__law_rows (K : PySem.W.Frag)  : TS :=
    (tSeq (tAsg (tC (.str "")) (gName 1))
    (tSeq (tFor (iTup K (tVar 0)) (gTup K 2 (gCons (gName 2) (gCons (gName 3) gNil))) (tIfS (tTest (tOp (rIS K) (tVar 3) (tC .non))) (tAsg (tOp (rADD K) (tOp (rADD K) (tOp (rADD K) (tVar 1) (tC (.str "-"))) (tSl (rSL K) (tCB rSTR (tCons (tOp (rADD K) (tC (.int 10000)) (tCB (rLEN K) (tCons (tVar 2) tNil))) tNil)) (tPart (tC (.int 1))) tNoPart)) (tVar 2)) (gName 1)) (tAsg (tOp (rADD K) (tOp (rADD K) (tOp (rADD K) (tOp (rADD K) (tOp (rADD K) (tVar 1) (tC (.str "+"))) (tSl (rSL K) (tCB rSTR (tCons (tOp (rADD K) (tC (.int 10000)) (tCB (rLEN K) (tCons (tVar 2) tNil))) tNil)) (tPart (tC (.int 1))) tNoPart)) (tVar 2)) (tSl (rSL K) (tCB rSTR (tCons (tOp (rADD K) (tC (.int 10000)) (tCB (rLEN K) (tCons (tVar 3) tNil))) tNil)) (tPart (tC (.int 1))) tNoPart)) (tVar 3)) (gName 1))))
    (tRet (tVar 1))))
theorem b__law_rows (Y : Fx K mg)   {f : Addr} {cdv : Value} {A : Around} {outer : List Env} {s : Shared} {H : Hp} {E : XK} (hr : Room 0 (A.deeper (envOfC "_law_rows" (defScope s__law_rows) s.heap.objs.size f cdv))) :
    PSs (cxOf CX0 P w K mg base ["_law_changes_here", "_law_found", "_law_key", "_law_value"] "_law_rows" (defScope s__law_rows) f cdv A outer s H E).nox (defBody s__law_rows) (t__law_rows K ) :=
    (pss_cons (ps_set (i := 1) sc__law_rows.nd rfl (Or.inl rfl) pe_str)
    (pss_cons (ps_for PassesOwn.never rfl (pi_tup (pv 0)) (pg_tup rfl (pgs_cons (pg_name (i := 2) sc__law_rows.nd rfl (Or.inl rfl)) (pgs_cons (pg_name (i := 3) sc__law_rows.nd rfl (Or.inl rfl)) pgs_nil))) (pss_one (ps_if (pt_cmpR op_IS (pv 3) pe_non (nomark _)) (pss_one (ps_set (i := 1) sc__law_rows.nd rfl (Or.inl rfl) (pe_op op_ADD (pe_op op_ADD (pe_op op_ADD (pv 1) pe_str) (pe_slice sl_SEQ (pe_callTy call_STR (by rfl) Y.m_str (by decide +kernel) (pa_cons (pe_op op_ADD pe_int (pe_callB call_LEN (by rfl) Y.m_len (by decide +kernel) (pa_cons (pv 2) pa_nil))) pa_nil)) (po_some pe_int) po_none)) (pv 2)))) (pss_one (ps_set (i := 1) sc__law_rows.nd rfl (Or.inl rfl) (pe_op op_ADD (pe_op op_ADD (pe_op op_ADD (pe_op op_ADD (pe_op op_ADD (pv 1) pe_str) (pe_slice sl_SEQ (pe_callTy call_STR (by rfl) Y.m_str (by decide +kernel) (pa_cons (pe_op op_ADD pe_int (pe_callB call_LEN (by rfl) Y.m_len (by decide +kernel) (pa_cons (pv 2) pa_nil))) pa_nil)) (po_some pe_int) po_none)) (pv 2)) (pe_slice sl_SEQ (pe_callTy call_STR (by rfl) Y.m_str (by decide +kernel) (pa_cons (pe_op op_ADD pe_int (pe_callB call_LEN (by rfl) Y.m_len (by decide +kernel) (pa_cons (pv 3) pa_nil))) pa_nil)) (po_some pe_int) po_none)) (pv 3)))))))
    (pss_one (ps_ret (pv 1)))))
def t__law_number (K : PySem.W.Frag)  : TS :=
    (tSeq (tAsg (tSl (rSL K) (tVar 0) (tPart (tVar 1)) (tPart (tOp (rADD K) (tVar 1) (tVar 2)))) (gName 3))
    (tSeq (tIfS (tOr (tTest (tOp rLT (tCB (rLEN K) (tCons (tVar 3) tNil)) (tVar 2))) (tTest (tOp (rNE K) (tLc (iStr (tVar 3)) (gName 4) (tTest (tOp (rNINU K) (tVar 4) (tC (.str "0123456789")))) (tVar 4) [4]) (tLst tNil)))) (tRet (tUn rNEG (tC (.int 1)))) tNext)
    (tRet (tCB rINT (tCons (tVar 3) tNil)))))
theorem b__law_number (Y : Fx K mg)   {f : Addr} {cdv : Value} {A : Around} {outer : List Env} {s : Shared} {H : Hp} {E : XK} (hr : Room 0 (A.deeper (envOfC "_law_number" (defScope s__law_number) s.heap.objs.size f cdv))) :
    PSs (cxOf CX0 P w K mg base ["_law_text_here", "_law_at", "_law_many", "_law_part", "_law_sign_here"] "_law_number" (defScope s__law_number) f cdv A outer s H E).nox (defBody s__law_number) (t__law_number K ) :=
    (pss_cons (ps_set (i := 3) sc__law_number.nd rfl (Or.inl rfl) (pe_slice sl_SEQ (pv 0) (po_some (pv 1)) (po_some (pe_op op_ADD (pv 1) (pv 2)))))
    (pss_cons (ps_if (PW.pt (pw_or (pt_cmpR op_LT (pe_callB call_LEN (by rfl) Y.m_len (by decide +kernel) (pa_cons (pv 3) pa_nil)) (pv 2) (nomark _)) (pw_or1 (pt_cmpR (op_NE (hu_64 hr)) (pe_lc (own := [("_law_sign_here", 4)]) (by rfl) sc__law_number.nd (pi_str (pv 3)) (blkOk_by (own := [("_law_sign_here", 4)]) (N := ["_law_text_here", "_law_at", "_law_many", "_law_part", "_law_sign_here"]) (sc := defScope s__law_number) (by decide +kernel)) (fun _ _ _ _ _ => (pg_name (i := 4) sc__law_number.nd rfl (Or.inl rfl))) (fun _ _ _ _ _ => (pts_one (pt_cmpR op_NIN (pv 4) pe_str (by with_unfolding_all rfl)))) (fun _ _ _ _ _ => (pv 4))) (pe_lst pa_nil) (nomark _))))) (pss_one (ps_ret (pe_un un_NEG pe_int))) pss_nil)
    (pss_one (ps_ret (pe_callTy call_INT (by rfl) Y.m_int (by decide +kernel) (pa_cons (pv 3) pa_nil))))))
def t__law_read_rows (K : PySem.W.Frag) (sp__law_number : PySem.W.Frag → Sp) : TS :=
    (tSeq (tPar 1 2 (tCons (tLst tNil) (tCons (tC (.int 0)) tNil)))
    (tSeq (tWhile (tTest (tOp rLT (tVar 2) (tCB (rLEN K) (tCons (tVar 0) tNil)))) (tSeq (tAsg (tCall (sp__law_number K) [] E0 (tCons (tVar 0) (tCons (tOp (rADD K) (tVar 2) (tC (.int 1))) (tCons (tC (.int 4)) tNil)))) (gName 3))
      (tSeq (tIfS (tOr (tTest (tOp (rNINU K) (tOp (rIX K) (tVar 0) (tVar 2)) (tC (.str "+-")))) (tOr (tTest (tOp rLT (tVar 3) (tC (.int 0)))) (tTest (tOp rGT (tOp (rADD K) (tOp (rADD K) (tVar 2) (tC (.int 5))) (tVar 3)) (tCB (rLEN K) (tCons (tVar 0) tNil)))))) (tRet (tC .non)) tNext)
      (tSeq (tPar3 4 5 6 (tCons (tSl (rSL K) (tVar 0) (tPart (tOp (rADD K) (tVar 2) (tC (.int 5)))) (tPart (tOp (rADD K) (tOp (rADD K) (tVar 2) (tC (.int 5))) (tVar 3)))) (tCons (tC .non) (tCons (tOp (rADD K) (tOp (rADD K) (tVar 2) (tC (.int 5))) (tVar 3)) tNil))))
      (Evl.tCut (tIfS (tTest (tOp (rEQ K) (tOp (rIX K) (tVar 0) (tVar 2)) (tC (.str "+")))) (tSeq (tAsg (tCall (sp__law_number K) [] E0 (tCons (tVar 0) (tCons (tVar 6) (tCons (tC (.int 4)) tNil)))) (gName 7))
        (tSeq (tIfS (tOr (tTest (tOp rLT (tVar 7) (tC (.int 0)))) (tTest (tOp rGT (tOp (rADD K) (tOp (rADD K) (tVar 6) (tC (.int 4))) (tVar 7)) (tCB (rLEN K) (tCons (tVar 0) tNil))))) (tRet (tC .non)) tNext)
        (tPar 5 6 (tCons (tSl (rSL K) (tVar 0) (tPart (tOp (rADD K) (tVar 6) (tC (.int 4)))) (tPart (tOp (rADD K) (tOp (rADD K) (tVar 6) (tC (.int 4))) (tVar 7)))) (tCons (tOp (rADD K) (tOp (rADD K) (tVar 6) (tC (.int 4))) (tVar 7)) tNil))))) tNext)
      (tSeq (tIfS (tAnd (tTest (tOp (rNE K) (tVar 1) (tLst tNil))) (tTest (tOp rGE (tOp (rIX K) (tOp (rIX K) (tVar 1) (tUn rNEG (tC (.int 1)))) (tC (.int 0))) (tVar 4)))) (tRet (tC .non)) tNext)
      (tSeq (tDrop (tBM K "list" rAppend (tVar 1) (tCons (tTup (tCons (tVar 4) (tCons (tVar 5) tNil))) tNil)))
      (tAsg (tVar 6) (gName 2)))))))))
    (tRet (tCB (rTUPLE K) (tCons (tVar 1) tNil)))))
theorem b__law_read_rows (Y : Fx K mg) {sp__law_number : PySem.W.Frag → Sp} (G__law_number : FnOk P w K mg base CX0 1 Y.a__law_number Y.fd__law_number ["_law_text_here", "_law_at", "_law_many"] (sp__law_number K)) {f : Addr} {cdv : Value} {A : Around} {outer : List Env} {s : Shared} {H : Hp} {E : XK} (hr : Room 1 (A.deeper (envOfC "_law_read_rows" (defScope s__law_read_rows) s.heap.objs.size f cdv))) :
    PSs (cxOf CX0 P w K mg base ["_law_text_here", "_law_found", "_law_at", "_law_long", "_law_key", "_law_value", "_law_behind", "_law_more"] "_law_read_rows" (defScope s__law_read_rows) f cdv A outer s H E).nox (defBody s__law_read_rows) (t__law_read_rows K sp__law_number) :=
    (pss_cons (ps_par (i := 1) (j := 2) (by rfl) sc__law_read_rows.nd rfl rfl (by decide) rfl rfl (pa_cons (pe_lst pa_nil) (pa_cons pe_int pa_nil)) (by rfl))
    (pss_cons (ps_while PassesOwn.never (pt_cmpR op_LT (pv 2) (pe_callB call_LEN (by rfl) Y.m_len (by decide +kernel) (pa_cons (pv 0) pa_nil)) (nomark _)) (pss_cons (ps_set (i := 3) sc__law_read_rows.nd rfl (Or.inl rfl) (pe_call G__law_number (hr.mono (by decide)) (by rfl) Y.g__law_number Y.F__law_number.kp Y.b__law_number .nil pass0 (pa_cons (pv 0) (pa_cons (pe_op op_ADD (pv 2) pe_int) (pa_cons pe_int pa_nil)))))
      (pss_cons (ps_if (PW.pt (pw_or (pt_cmpR op_NIN (pe_ix ix_SEQ (pv 0) (pv 2) (fun _ _ => rfl)) pe_str (by with_unfolding_all rfl)) (pw_or (pt_cmpR op_LT (pv 3) pe_int (nomark _)) (pw_or1 (pt_cmpR op_GT (pe_op op_ADD (pe_op op_ADD (pv 2) pe_int) (pv 3)) (pe_callB call_LEN (by rfl) Y.m_len (by decide +kernel) (pa_cons (pv 0) pa_nil)) (nomark _)))))) (pss_one (ps_ret pe_non)) pss_nil)
      (pss_cons (ps_par3 (i := 4) (j := 5) (l := 6) (by rfl) sc__law_read_rows.nd rfl rfl rfl (by decide) (by decide) (by decide) rfl rfl rfl (pa_cons (pe_slice sl_SEQ (pv 0) (po_some (pe_op op_ADD (pv 2) pe_int)) (po_some (pe_op op_ADD (pe_op op_ADD (pv 2) pe_int) (pv 3)))) (pa_cons pe_non (pa_cons (pe_op op_ADD (pe_op op_ADD (pv 2) pe_int) (pv 3)) pa_nil))) (by rfl))
      (Evl.pss_cut (ps_if (pt_cmpR (op_EQ (hu_64 hr)) (pe_ix ix_SEQ (pv 0) (pv 2) (fun _ _ => rfl)) pe_str (nomark _)) (pss_cons (ps_set (i := 7) sc__law_read_rows.nd rfl (Or.inl rfl) (pe_call G__law_number (hr.mono (by decide)) (by rfl) Y.g__law_number Y.F__law_number.kp Y.b__law_number .nil pass0 (pa_cons (pv 0) (pa_cons (pv 6) (pa_cons pe_int pa_nil)))))
        (pss_cons (ps_if (PW.pt (pw_or (pt_cmpR op_LT (pv 7) pe_int (nomark _)) (pw_or1 (pt_cmpR op_GT (pe_op op_ADD (pe_op op_ADD (pv 6) pe_int) (pv 7)) (pe_callB call_LEN (by rfl) Y.m_len (by decide +kernel) (pa_cons (pv 0) pa_nil)) (nomark _))))) (pss_one (ps_ret pe_non)) pss_nil)
        (pss_one (ps_par (i := 5) (j := 6) (by rfl) sc__law_read_rows.nd rfl rfl (by decide) rfl rfl (pa_cons (pe_slice sl_SEQ (pv 0) (po_some (pe_op op_ADD (pv 6) pe_int)) (po_some (pe_op op_ADD (pe_op op_ADD (pv 6) pe_int) (pv 7)))) (pa_cons (pe_op op_ADD (pe_op op_ADD (pv 6) pe_int) (pv 7)) pa_nil)) (by rfl))))) pss_nil)
      (pss_cons (ps_if (PW.pt (pw_and (pt_cmpR (op_NE (hu_64 hr)) (pv 1) (pe_lst pa_nil) (nomark _)) (pw_and1 (pt_cmpR op_GE (pe_ix ix_SEQ (pe_ix ix_SEQ (pv 1) (pe_un un_NEG pe_int) (fun _ _ => rfl)) pe_int (fun _ _ => rfl)) (pv 4) (nomark _))))) (pss_one (ps_ret pe_non)) pss_nil)
      (pss_cons (ps_expr (pe_bm PySem.F.plainAttrs_list PySem.F.slot_list_append PySem.F.type_list_append mt_append (pv 1) (pa_cons (pe_tup (pa_cons (pv 4) (pa_cons (pv 5) pa_nil))) pa_nil)))
      (pss_one (ps_set (i := 2) sc__law_read_rows.nd rfl (Or.inl rfl) (pv 6))))))))))
    (pss_one (ps_ret (pe_callTy call_TUPLE (by rfl) Y.m_tuple (by decide +kernel) (pa_cons (pv 1) pa_nil))))))
def t__law_digits (K : PySem.W.Frag)  : TS :=
    (tRet (tSl (rSL K) (tCB rSTR (tCons (tOp (rADD K) (tOp rPOW (tC (.int 10)) (tC (.int 9))) (tVar 0)) tNil)) (tPart (tOp rSUB (tC (.int 10)) (tVar 1))) tNoPart))
theorem b__law_digits (Y : Fx K mg)   {f : Addr} {cdv : Value} {A : Around} {outer : List Env} {s : Shared} {H : Hp} {E : XK} (hr : Room 0 (A.deeper (envOfC "_law_digits" (defScope s__law_digits) s.heap.objs.size f cdv))) :
    PSs (cxOf CX0 P w K mg base ["_law_number_here", "_law_many"] "_law_digits" (defScope s__law_digits) f cdv A outer s H E).nox (defBody s__law_digits) (t__law_digits K ) :=
    (pss_one (ps_ret (pe_slice sl_SEQ (pe_callTy call_STR (by rfl) Y.m_str (by decide +kernel) (pa_cons (pe_op op_ADD (pe_op op_POW pe_int pe_int) (pv 0)) pa_nil)) (po_some (pe_op op_SUB pe_int (pv 1))) po_none)))
def t__law_written (K : PySem.W.Frag) (sp__law_digits : PySem.W.Frag → Sp) (sp__law_rows : PySem.W.Frag → Sp) : TS :=
    (tSeq (tIfS (tTest (tOp (rEQ K) (tOp (rIX K) (tVar 0) (tC (.int 0))) (tC (.str "none")))) (tRet (tC (.str "N"))) tNext)
    (tSeq (tAsg (tCall (sp__law_rows K) [] E0 (tCons (tOp (rIX K) (tVar 0) (tUn rNEG (tC (.int 1)))) tNil)) (gName 1))
    (tSeq (tIfS (tTest (tOp (rEQ K) (tOp (rIX K) (tVar 0) (tC (.int 0))) (tC (.str "part")))) (tRet (tOp (rADD K) (tOp (rADD K) (tC (.str "P")) (tCall (sp__law_digits K) [] E0 (tCons (tOp (rIX K) (tVar 0) (tC (.int 1))) (tCons (tC (.int 8)) tNil)))) (tVar 1))) tNext)
    (tRet (tOp (rADD K) (tOp (rADD K) (tOp (rADD K) (tOp (rADD K) (tC (.str "S")) (tCall (sp__law_digits K) [] E0 (tCons (tOp (rIX K) (tVar 0) (tC (.int 1))) (tCons (tC (.int 8)) tNil)))) (tCall (sp__law_digits K) [] E0 (tCons (tOp (rIX K) (tVar 0) (tC (.int 2))) (tCons (tC (.int 4)) tNil)))) (tCall (sp__law_digits K) [] E0 (tCons (tOp (rIX K) (tVar 0) (tC (.int 3))) (tCons (tC (.int 4)) tNil)))) (tVar 1))))))
theorem b__law_written (Y : Fx K mg) {sp__law_digits : PySem.W.Frag → Sp} {sp__law_rows : PySem.W.Frag → Sp} (G__law_digits : FnOk P w K mg base CX0 1 Y.a__law_digits Y.fd__law_digits ["_law_number_here", "_law_many"] (sp__law_digits K)) (G__law_rows : FnOk P w K mg base CX0 1 Y.a__law_rows Y.fd__law_rows ["_law_changes_here"] (sp__law_rows K)) {f : Addr} {cdv : Value} {A : Around} {outer : List Env} {s : Shared} {H : Hp} {E : XK} (hr : Room 1 (A.deeper (envOfC "_law_written" (defScope s__law_written) s.heap.objs.size f cdv))) :
    PSs (cxOf CX0 P w K mg base ["_law_letter_here", "_law_rows_here"] "_law_written" (defScope s__law_written) f cdv A outer s H E).nox (defBody s__law_written) (t__law_written K sp__law_digits sp__law_rows) :=
    (pss_cons (ps_if (pt_cmpR (op_EQ (hu_64 hr)) (pe_ix ix_SEQ (pv 0) pe_int (fun _ _ => rfl)) pe_str (nomark _)) (pss_one (ps_ret pe_str)) pss_nil)
    (pss_cons (ps_set (i := 1) sc__law_written.nd rfl (Or.inl rfl) (pe_call G__law_rows (hr.mono (by decide)) (by rfl) Y.g__law_rows Y.F__law_rows.kp Y.b__law_rows .nil pass0 (pa_cons (pe_ix ix_SEQ (pv 0) (pe_un un_NEG pe_int) (fun _ _ => rfl)) pa_nil)))
    (pss_cons (ps_if (pt_cmpR (op_EQ (hu_64 hr)) (pe_ix ix_SEQ (pv 0) pe_int (fun _ _ => rfl)) pe_str (nomark _)) (pss_one (ps_ret (pe_op op_ADD (pe_op op_ADD pe_str (pe_call G__law_digits (hr.mono (by decide)) (by rfl) Y.g__law_digits Y.F__law_digits.kp Y.b__law_digits .nil pass0 (pa_cons (pe_ix ix_SEQ (pv 0) pe_int (fun _ _ => rfl)) (pa_cons pe_int pa_nil)))) (pv 1)))) pss_nil)
    (pss_one (ps_ret (pe_op op_ADD (pe_op op_ADD (pe_op op_ADD (pe_op op_ADD pe_str (pe_call G__law_digits (hr.mono (by decide)) (by rfl) Y.g__law_digits Y.F__law_digits.kp Y.b__law_digits .nil pass0 (pa_cons (pe_ix ix_SEQ (pv 0) pe_int (fun _ _ => rfl)) (pa_cons pe_int pa_nil)))) (pe_call G__law_digits (hr.mono (by decide)) (by rfl) Y.g__law_digits Y.F__law_digits.kp Y.b__law_digits .nil pass0 (pa_cons (pe_ix ix_SEQ (pv 0) pe_int (fun _ _ => rfl)) (pa_cons pe_int pa_nil)))) (pe_call G__law_digits (hr.mono (by decide)) (by rfl) Y.g__law_digits Y.F__law_digits.kp Y.b__law_digits .nil pass0 (pa_cons (pe_ix ix_SEQ (pv 0) pe_int (fun _ _ => rfl)) (pa_cons pe_int pa_nil)))) (pv 1)))))))
def t__law_read (K : PySem.W.Frag) (sp__law_number : PySem.W.Frag → Sp) (sp__law_read_rows : PySem.W.Frag → Sp) : TS :=
    (tSeq (tAsg (tCall (sp__law_number K) [] E0 (tCons (tVar 0) (tCons (tC (.int 1)) (tCons (tC (.int 8)) tNil)))) (gName 1))
    (tSeq (tIfS (tTest (tOp (rEQ K) (tVar 0) (tC (.str "N")))) (tRet (tTup (tCons (tC (.str "none")) tNil))) tNext)
    (tSeq (tIfS (tAnd (tTest (tOp (rEQ K) (tSl (rSL K) (tVar 0) tNoPart (tPart (tC (.int 1)))) (tC (.str "P")))) (tTest (tOp rGT (tVar 1) (tC (.int 0))))) (tSeq (tAsg (tCall (sp__law_read_rows K) [] E0 (tCons (tSl (rSL K) (tVar 0) (tPart (tC (.int 9))) tNoPart) tNil)) (gName 2))
      (tRet (tIf (tTest (tOp (rIS K) (tVar 2) (tC .non))) (tC .non) (tTup (tCons (tC (.str "part")) (tCons (tVar 1) (tCons (tVar 2) tNil))))))) tNext)
    (tSeq (tIfS (tOr (tTest (tOp (rNE K) (tSl (rSL K) (tVar 0) tNoPart (tPart (tC (.int 1)))) (tC (.str "S")))) (tTest (tOp rLT (tVar 1) (tC (.int 0))))) (tRet (tC .non)) tNext)
    (tSeq (tPar3 3 4 2 (tCons (tCall (sp__law_number K) [] E0 (tCons (tVar 0) (tCons (tC (.int 9)) (tCons (tC (.int 4)) tNil)))) (tCons (tCall (sp__law_number K) [] E0 (tCons (tVar 0) (tCons (tC (.int 13)) (tCons (tC (.int 4)) tNil)))) (tCons (tCall (sp__law_read_rows K) [] E0 (tCons (tSl (rSL K) (tVar 0) (tPart (tC (.int 17))) tNoPart) tNil)) tNil))))
    (tSeq (tIfS (tOr (tTest (tOp (rIS K) (tVar 2) (tC .non))) (tOr (tTest (tOp rLT (tVar 3) (tC (.int 0)))) (tOr (tTest (tOp rLE (tVar 4) (tVar 3))) (tTest (tOp (rNE K) (tLc (iTup K (tVar 2)) (gTup K 2 (gCons (gName 5) (gCons (gName 6) gNil))) (tTest (tOp (rIS K) (tVar 6) (tC .non))) (tVar 5) [5, 6]) (tLst tNil)))))) (tRet (tC .non)) tNext)
    (tRet (tTup (tCons (tC (.str "piece")) (tCons (tVar 1) (tCons (tVar 3) (tCons (tVar 4) (tCons (tVar 2) tNil)))))))))))))
theorem b__law_read (Y : Fx K mg) {sp__law_number : PySem.W.Frag → Sp} {sp__law_read_rows : PySem.W.Frag → Sp} (G__law_number : FnOk P w K mg base CX0 1 Y.a__law_number Y.fd__law_number ["_law_text_here", "_law_at", "_law_many"] (sp__law_number K)) (G__law_read_rows : FnOk P w K mg base CX0 2 Y.a__law_read_rows Y.fd__law_read_rows ["_law_text_here"] (sp__law_read_rows K)) {f : Addr} {cdv : Value} {A : Around} {outer : List Env} {s : Shared} {H : Hp} {E : XK} (hr : Room 2 (A.deeper (envOfC "_law_read" (defScope s__law_read) s.heap.objs.size f cdv))) :
    PSs (cxOf CX0 P w K mg base ["_law_text_here", "_law_number_here", "_law_rows_here", "_law_index", "_law_pieces", "_law_key", "_law_value"] "_law_read" (defScope s__law_read) f cdv A outer s H E).nox (defBody s__law_read) (t__law_read K sp__law_number sp__law_read_rows) :=
    (pss_cons (ps_set (i := 1) sc__law_read.nd rfl (Or.inl rfl) (pe_call G__law_number (hr.mono (by decide)) (by rfl) Y.g__law_number Y.F__law_number.kp Y.b__law_number .nil pass0 (pa_cons (pv 0) (pa_cons pe_int (pa_cons pe_int pa_nil)))))
    (pss_cons (ps_if (pt_cmpR (op_EQ (hu_64 hr)) (pv 0) pe_str (nomark _)) (pss_one (ps_ret (pe_tup (pa_cons pe_str pa_nil)))) pss_nil)
    (pss_cons (ps_if (PW.pt (pw_and (pt_cmpR (op_EQ (hu_64 hr)) (pe_slice sl_SEQ (pv 0) po_none (po_some pe_int)) pe_str (nomark _)) (pw_and1 (pt_cmpR op_GT (pv 1) pe_int (nomark _))))) (pss_cons (ps_set (i := 2) sc__law_read.nd rfl (Or.inl rfl) (pe_call G__law_read_rows (hr.mono (by decide)) (by rfl) Y.g__law_read_rows Y.F__law_read_rows.kp Y.b__law_read_rows .nil pass0 (pa_cons (pe_slice sl_SEQ (pv 0) (po_some pe_int) po_none) pa_nil)))
      (pss_one (ps_ret (pe_ifExp (pt_cmpR op_IS (pv 2) pe_non (nomark _)) pe_non (pe_tup (pa_cons pe_str (pa_cons (pv 1) (pa_cons (pv 2) pa_nil)))))))) pss_nil)
    (pss_cons (ps_if (PW.pt (pw_or (pt_cmpR (op_NE (hu_64 hr)) (pe_slice sl_SEQ (pv 0) po_none (po_some pe_int)) pe_str (nomark _)) (pw_or1 (pt_cmpR op_LT (pv 1) pe_int (nomark _))))) (pss_one (ps_ret pe_non)) pss_nil)
    (pss_cons (ps_par3 (i := 3) (j := 4) (l := 2) (by rfl) sc__law_read.nd rfl rfl rfl (by decide) (by decide) (by decide) rfl rfl rfl (pa_cons (pe_call G__law_number (hr.mono (by decide)) (by rfl) Y.g__law_number Y.F__law_number.kp Y.b__law_number .nil pass0 (pa_cons (pv 0) (pa_cons pe_int (pa_cons pe_int pa_nil)))) (pa_cons (pe_call G__law_number (hr.mono (by decide)) (by rfl) Y.g__law_number Y.F__law_number.kp Y.b__law_number .nil pass0 (pa_cons (pv 0) (pa_cons pe_int (pa_cons pe_int pa_nil)))) (pa_cons (pe_call G__law_read_rows (hr.mono (by decide)) (by rfl) Y.g__law_read_rows Y.F__law_read_rows.kp Y.b__law_read_rows .nil pass0 (pa_cons (pe_slice sl_SEQ (pv 0) (po_some pe_int) po_none) pa_nil)) pa_nil))) (by rfl))
    (pss_cons (ps_if (PW.pt (pw_or (pt_cmpR op_IS (pv 2) pe_non (nomark _)) (pw_or (pt_cmpR op_LT (pv 3) pe_int (nomark _)) (pw_or (pt_cmpR op_LE (pv 4) (pv 3) (nomark _)) (pw_or1 (pt_cmpR (op_NE (hu_64 hr)) (pe_lc (own := [("_law_key", 5), ("_law_value", 6)]) (by rfl) sc__law_read.nd (pi_tup (pv 2)) (blkOk_by (own := [("_law_key", 5), ("_law_value", 6)]) (N := ["_law_text_here", "_law_number_here", "_law_rows_here", "_law_index", "_law_pieces", "_law_key", "_law_value"]) (sc := defScope s__law_read) (by decide +kernel)) (fun _ _ _ _ _ => (pg_tup rfl (pgs_cons (pg_name (i := 5) sc__law_read.nd rfl (Or.inl rfl)) (pgs_cons (pg_name (i := 6) sc__law_read.nd rfl (Or.inl rfl)) pgs_nil)))) (fun _ _ _ _ _ => (pts_one (pt_cmpR op_IS (pv 6) pe_non (nomark _)))) (fun _ _ _ _ _ => (pv 5))) (pe_lst pa_nil) (nomark _))))))) (pss_one (ps_ret pe_non)) pss_nil)
    (pss_one (ps_ret (pe_tup (pa_cons pe_str (pa_cons (pv 1) (pa_cons (pv 3) (pa_cons (pv 4) (pa_cons (pv 2) pa_nil))))))))))))))
def t__law_letter (K : PySem.W.Frag) (sp__law_changes : PySem.W.Frag → Sp) (sp__law_draw : PySem.W.Frag → Sp) : TS :=
    (tSeq (tAsg (tOp (rIX K) (tLst (tCons (tC (.int 1)) (tCons (tC (.int 99999999)) (tCons (tOp (rADD K) (tC (.int 1)) (tCall (sp__law_draw K) [] E0 (tCons (tVar 0) (tCons (tC (.int 99999999)) tNil)))) (tCons (tOp (rADD K) (tC (.int 1)) (tCall (sp__law_draw K) [] E0 (tCons (tVar 0) (tCons (tC (.int 20)) tNil)))) tNil))))) (tCall (sp__law_draw K) [] E0 (tCons (tVar 0) (tCons (tC (.int 4)) tNil)))) (gName 1))
    (tSeq (tAsg (tCall (sp__law_changes K) [] E0 (tCons (tVar 0) (tCons (tC (.int 0)) (tCons (tC (.int 5)) tNil)))) (gName 2))
    (tSeq (tIfS (tTest (tOp (rEQ K) (tCall (sp__law_draw K) [] E0 (tCons (tVar 0) (tCons (tC (.int 12)) tNil))) (tC (.int 0)))) (tAsg (tTup (tCons (tTup (tCons (tOp (rMUL K) (tC (.str "a")) (tC (.int 9999))) (tCons (tOp (rMUL K) (tC (.str "x")) (tOp (rIX K) (tLst (tCons (tC (.int 0)) (tCons (tC (.int 9999)) tNil))) (tCall (sp__law_draw K) [] E0 (tCons (tVar 0) (tCons (tC (.int 2)) tNil))))) tNil))) tNil)) (gName 2)) tNext)
    (tSeq (tAsg (tCall (sp__law_draw K) [] E0 (tCons (tVar 0) (tCons (tC (.int 5)) tNil))) (gName 3))
    (tSeq (tIfS (tTest (tOp (rEQ K) (tVar 3) (tC (.int 0)))) (tRet (tTup (tCons (tC (.str "none")) tNil))) tNext)
    (tSeq (tIfS (tTest (tOp rLT (tVar 3) (tC (.int 3)))) (tRet (tTup (tCons (tC (.str "part")) (tCons (tVar 1) (tCons (tVar 2) tNil))))) tNext)
    (tSeq (tAsg (tOp (rIX K) (tLst (tCons (tC (.int 1)) (tCons (tC (.int 9999)) (tCons (tOp (rADD K) (tC (.int 1)) (tCall (sp__law_draw K) [] E0 (tCons (tVar 0) (tCons (tC (.int 9999)) tNil)))) (tCons (tOp (rADD K) (tC (.int 1)) (tCall (sp__law_draw K) [] E0 (tCons (tVar 0) (tCons (tC (.int 5)) tNil)))) tNil))))) (tCall (sp__law_draw K) [] E0 (tCons (tVar 0) (tCons (tC (.int 4)) tNil)))) (gName 4))
    (tSeq (tAsg (tOp (rIX K) (tLst (tCons (tC (.int 0)) (tCons (tOp rSUB (tVar 4) (tC (.int 1))) (tCons (tCall (sp__law_draw K) [] E0 (tCons (tVar 0) (tCons (tVar 4) tNil))) tNil)))) (tCall (sp__law_draw K) [] E0 (tCons (tVar 0) (tCons (tC (.int 3)) tNil)))) (gName 5))
    (tSeq (tAsg (tCB (rTUPLE K) (tCons (tLc (iTup K (tVar 2)) (gTup K 2 (gCons (gName 7) (gCons (gName 8) gNil))) tYes (tTup (tCons (tVar 7) (tCons (tIf (tTest (tOp (rIS K) (tVar 8) (tC .non))) (tC (.str "")) (tVar 8)) tNil))) [7, 8]) tNil)) (gName 6))
    (tRet (tTup (tCons (tC (.str "piece")) (tCons (tOp rSUB (tVar 1) (tCall (sp__law_draw K) [] E0 (tCons (tVar 0) (tCons (tC (.int 2)) tNil)))) (tCons (tVar 5) (tCons (tVar 4) (tCons (tVar 6) tNil))))))))))))))))
theorem b__law_letter (Y : Fx K mg) {sp__law_changes : PySem.W.Frag → Sp} {sp__law_draw : PySem.W.Frag → Sp} (G__law_changes : FnOk P w K mg base CX0 4 Y.a__law_changes Y.fd__law_changes ["_law_well_here", "_law_least", "_law_most"] (sp__law_changes K)) (G__law_draw : FnOk P w K mg base CX0 1 Y.a__law_draw Y.fd__law_draw ["_law_well_here", "_law_many"] (sp__law_draw K)) {f : Addr} {cdv : Value} {A : Around} {outer : List Env} {s : Shared} {H : Hp} {E : XK} (hr : Room 4 (A.deeper (envOfC "_law_letter" (defScope s__law_letter) s.heap.objs.size f cdv))) :
    PSs (cxOf CX0 P w K mg base ["_law_well_here", "_law_number_here", "_law_changes_here", "_law_way", "_law_pieces", "_law_index", "_law_entries", "_law_key", "_law_value"] "_law_letter" (defScope s__law_letter) f cdv A outer s H E).nox (defBody s__law_letter) (t__law_letter K sp__law_changes sp__law_draw) :=
    (pss_cons (ps_set (i := 1) sc__law_letter.nd rfl (Or.inl rfl) (pe_ix ix_SEQ (pe_lst (pa_cons pe_int (pa_cons pe_int (pa_cons (pe_op op_ADD pe_int (pe_call G__law_draw (hr.mono (by decide)) (by rfl) Y.g__law_draw Y.F__law_draw.kp Y.b__law_draw .nil pass0 (pa_cons (pv 0) (pa_cons pe_int pa_nil)))) (pa_cons (pe_op op_ADD pe_int (pe_call G__law_draw (hr.mono (by decide)) (by rfl) Y.g__law_draw Y.F__law_draw.kp Y.b__law_draw .nil pass0 (pa_cons (pv 0) (pa_cons pe_int pa_nil)))) pa_nil))))) (pe_call G__law_draw (hr.mono (by decide)) (by rfl) Y.g__law_draw Y.F__law_draw.kp Y.b__law_draw .nil pass0 (pa_cons (pv 0) (pa_cons pe_int pa_nil))) (fun _ _ => rfl)))
    (pss_cons (ps_set (i := 2) sc__law_letter.nd rfl (Or.inl rfl) (pe_call G__law_changes (hr.mono (by decide)) (by rfl) Y.g__law_changes Y.F__law_changes.kp Y.b__law_changes .nil pass0 (pa_cons (pv 0) (pa_cons pe_int (pa_cons pe_int pa_nil)))))
    (pss_cons (ps_if (pt_cmpR (op_EQ (hu_64 hr)) (pe_call G__law_draw (hr.mono (by decide)) (by rfl) Y.g__law_draw Y.F__law_draw.kp Y.b__law_draw .nil pass0 (pa_cons (pv 0) (pa_cons pe_int pa_nil))) pe_int (nomark _)) (pss_one (ps_set (i := 2) sc__law_letter.nd rfl (Or.inl rfl) (pe_tup (pa_cons (pe_tup (pa_cons (pe_op op_MUL pe_str pe_int) (pa_cons (pe_op op_MUL pe_str (pe_ix ix_SEQ (pe_lst (pa_cons pe_int (pa_cons pe_int pa_nil))) (pe_call G__law_draw (hr.mono (by decide)) (by rfl) Y.g__law_draw Y.F__law_draw.kp Y.b__law_draw .nil pass0 (pa_cons (pv 0) (pa_cons pe_int pa_nil))) (fun _ _ => rfl))) pa_nil))) pa_nil)))) pss_nil)
    (pss_cons (ps_set (i := 3) sc__law_letter.nd rfl (Or.inl rfl) (pe_call G__law_draw (hr.mono (by decide)) (by rfl) Y.g__law_draw Y.F__law_draw.kp Y.b__law_draw .nil pass0 (pa_cons (pv 0) (pa_cons pe_int pa_nil))))
    (pss_cons (ps_if (pt_cmpR (op_EQ (hu_64 hr)) (pv 3) pe_int (nomark _)) (pss_one (ps_ret (pe_tup (pa_cons pe_str pa_nil)))) pss_nil)
    (pss_cons (ps_if (pt_cmpR op_LT (pv 3) pe_int (nomark _)) (pss_one (ps_ret (pe_tup (pa_cons pe_str (pa_cons (pv 1) (pa_cons (pv 2) pa_nil)))))) pss_nil)
    (pss_cons (ps_set (i := 4) sc__law_letter.nd rfl (Or.inl rfl) (pe_ix ix_SEQ (pe_lst (pa_cons pe_int (pa_cons pe_int (pa_cons (pe_op op_ADD pe_int (pe_call G__law_draw (hr.mono (by decide)) (by rfl) Y.g__law_draw Y.F__law_draw.kp Y.b__law_draw .nil pass0 (pa_cons (pv 0) (pa_cons pe_int pa_nil)))) (pa_cons (pe_op op_ADD pe_int (pe_call G__law_draw (hr.mono (by decide)) (by rfl) Y.g__law_draw Y.F__law_draw.kp Y.b__law_draw .nil pass0 (pa_cons (pv 0) (pa_cons pe_int pa_nil)))) pa_nil))))) (pe_call G__law_draw (hr.mono (by decide)) (by rfl) Y.g__law_draw Y.F__law_draw.kp Y.b__law_draw .nil pass0 (pa_cons (pv 0) (pa_cons pe_int pa_nil))) (fun _ _ => rfl)))
    (pss_cons (ps_set (i := 5) sc__law_letter.nd rfl (Or.inl rfl) (pe_ix ix_SEQ (pe_lst (pa_cons pe_int (pa_cons (pe_op op_SUB (pv 4) pe_int) (pa_cons (pe_call G__law_draw (hr.mono (by decide)) (by rfl) Y.g__law_draw Y.F__law_draw.kp Y.b__law_draw .nil pass0 (pa_cons (pv 0) (pa_cons (pv 4) pa_nil))) pa_nil)))) (pe_call G__law_draw (hr.mono (by decide)) (by rfl) Y.g__law_draw Y.F__law_draw.kp Y.b__law_draw .nil pass0 (pa_cons (pv 0) (pa_cons pe_int pa_nil))) (fun _ _ => rfl)))
    (pss_cons (ps_set (i := 6) sc__law_letter.nd rfl (Or.inl rfl) (pe_callTy call_TUPLE (by rfl) Y.m_tuple (by decide +kernel) (pa_cons (pe_lc (own := [("_law_key", 7), ("_law_value", 8)]) (by rfl) sc__law_letter.nd (pi_tup (pv 2)) (blkOk_by (own := [("_law_key", 7), ("_law_value", 8)]) (N := ["_law_well_here", "_law_number_here", "_law_changes_here", "_law_way", "_law_pieces", "_law_index", "_law_entries", "_law_key", "_law_value"]) (sc := defScope s__law_letter) (by decide +kernel)) (fun _ _ _ _ _ => (pg_tup rfl (pgs_cons (pg_name (i := 7) sc__law_letter.nd rfl (Or.inl rfl)) (pgs_cons (pg_name (i := 8) sc__law_letter.nd rfl (Or.inl rfl)) pgs_nil)))) (fun _ _ _ _ _ => pts_nil) (fun _ _ _ _ _ => (pe_tup (pa_cons (pv 7) (pa_cons (pe_ifExp (pt_cmpR op_IS (pv 8) pe_non (nomark _)) pe_str (pv 8)) pa_nil))))) pa_nil)))
    (pss_one (ps_ret (pe_tup (pa_cons pe_str (pa_cons (pe_op op_SUB (pv 1) (pe_call G__law_draw (hr.mono (by decide)) (by rfl) Y.g__law_draw Y.F__law_draw.kp Y.b__law_draw .nil pass0 (pa_cons (pv 0) (pa_cons pe_int pa_nil)))) (pa_cons (pv 5) (pa_cons (pv 4) (pa_cons (pv 6) pa_nil)))))))))))))))))
def t__law_no_rows (K : PySem.W.Frag) (sp__law_draw : PySem.W.Frag → Sp) : TS :=
    (tSeq (tAsg (tLst (tCons (tLst tNil) (tCons (tC .non) (tCons (tTup (tCons (tTup (tCons (tC (.str "a")) tNil)) tNil)) (tCons (tTup (tCons (tTup (tCons (tC (.str "b")) (tCons (tC (.str "x")) tNil))) (tCons (tTup (tCons (tC (.str "a")) (tCons (tC (.str "x")) tNil))) tNil))) (tCons (tTup (tCons (tTup (tCons (tC (.str "a")) (tCons (tC (.str "x")) tNil))) (tCons (tTup (tCons (tC (.str "a")) (tCons (tC (.str "y")) tNil))) tNil))) (tCons (tTup (tCons (tTup (tCons (tC (.str "a")) (tCons (tC (.int 1)) tNil))) tNil)) (tCons (tTup (tCons (tTup (tCons (tC (.int 1)) (tCons (tC (.str "x")) tNil))) tNil)) tNil)))))))) (gName 1))
    (tSeq (tAsg (tOp (rADD K) (tVar 1) (tLst (tCons (tTup (tCons (tTup (tCons (tC (.str "a\n")) (tCons (tC (.str "x")) tNil))) tNil)) (tCons (tTup (tCons (tLst (tCons (tC (.str "a")) (tCons (tC (.str "x")) tNil))) tNil)) (tCons (tTup (tCons (tC (.str "ab")) tNil)) (tCons (tTup (tCons (tTup (tCons (tC (.str "a")) (tCons (tC (.str "x")) (tCons (tC (.str "y")) tNil)))) tNil)) (tCons (tC (.int 3)) (tCons (tTup (tCons (tTup (tCons (tOp (rMUL K) (tC (.str "a")) (tC (.int 10000))) (tCons (tC (.str "")) tNil))) tNil)) (tCons (tTup (tCons (tTup (tCons (tC (.str "")) (tCons (tOp (rMUL K) (tC (.str "b")) (tC (.int 10000))) tNil))) tNil)) tNil))))))))) (gName 1))
    (tRet (tOp (rIX K) (tVar 1) (tCall (sp__law_draw K) [] E0 (tCons (tVar 0) (tCons (tC (.int 14)) tNil)))))))
theorem b__law_no_rows (Y : Fx K mg) {sp__law_draw : PySem.W.Frag → Sp} (G__law_draw : FnOk P w K mg base CX0 1 Y.a__law_draw Y.fd__law_draw ["_law_well_here", "_law_many"] (sp__law_draw K)) {f : Addr} {cdv : Value} {A : Around} {outer : List Env} {s : Shared} {H : Hp} {E : XK} (hr : Room 1 (A.deeper (envOfC "_law_no_rows" (defScope s__law_no_rows) s.heap.objs.size f cdv))) :
    PSs (cxOf CX0 P w K mg base ["_law_well_here", "_law_some"] "_law_no_rows" (defScope s__law_no_rows) f cdv A outer s H E).nox (defBody s__law_no_rows) (t__law_no_rows K sp__law_draw) :=
    (pss_cons (ps_set (i := 1) sc__law_no_rows.nd rfl (Or.inl rfl) (pe_lst (pa_cons (pe_lst pa_nil) (pa_cons pe_non (pa_cons (pe_tup (pa_cons (pe_tup (pa_cons pe_str pa_nil)) pa_nil)) (pa_cons (pe_tup (pa_cons (pe_tup (pa_cons pe_str (pa_cons pe_str pa_nil))) (pa_cons (pe_tup (pa_cons pe_str (pa_cons pe_str pa_nil))) pa_nil))) (pa_cons (pe_tup (pa_cons (pe_tup (pa_cons pe_str (pa_cons pe_str pa_nil))) (pa_cons (pe_tup (pa_cons pe_str (pa_cons pe_str pa_nil))) pa_nil))) (pa_cons (pe_tup (pa_cons (pe_tup (pa_cons pe_str (pa_cons pe_int pa_nil))) pa_nil)) (pa_cons (pe_tup (pa_cons (pe_tup (pa_cons pe_int (pa_cons pe_str pa_nil))) pa_nil)) pa_nil)))))))))
    (pss_cons (ps_set (i := 1) sc__law_no_rows.nd rfl (Or.inl rfl) (pe_op op_ADD (pv 1) (pe_lst (pa_cons (pe_tup (pa_cons (pe_tup (pa_cons pe_str (pa_cons pe_str pa_nil))) pa_nil)) (pa_cons (pe_tup (pa_cons (pe_lst (pa_cons pe_str (pa_cons pe_str pa_nil))) pa_nil)) (pa_cons (pe_tup (pa_cons pe_str pa_nil)) (pa_cons (pe_tup (pa_cons (pe_tup (pa_cons pe_str (pa_cons pe_str (pa_cons pe_str pa_nil)))) pa_nil)) (pa_cons pe_int (pa_cons (pe_tup (pa_cons (pe_tup (pa_cons (pe_op op_MUL pe_str pe_int) (pa_cons pe_str pa_nil))) pa_nil)) (pa_cons (pe_tup (pa_cons (pe_tup (pa_cons pe_str (pa_cons (pe_op op_MUL pe_str pe_int) pa_nil))) pa_nil)) pa_nil))))))))))
    (pss_one (ps_ret (pe_ix ix_SEQ (pv 1) (pe_call G__law_draw (hr.mono (by decide)) (by rfl) Y.g__law_draw Y.F__law_draw.kp Y.b__law_draw .nil pass0 (pa_cons (pv 0) (pa_cons pe_int pa_nil))) (fun _ _ => rfl))))))
def t__law_bent (K : PySem.W.Frag) (sp__law_draw : PySem.W.Frag → Sp) (sp__law_no_rows : PySem.W.Frag → Sp) : TS :=
    (tSeq (tIfS (tTest (tOp (rEQ K) (tOp (rIX K) (tVar 1) (tC (.int 0))) (tC (.str "none")))) (tRet (tOp (rIX K) (tLst (tCons (tTup (tCons (tC (.str "none")) (tCons (tC (.int 1)) tNil))) (tCons (tTup (tCons (tC (.str "None")) tNil)) (tCons (tC (.str "none")) (tCons (tLst (tCons (tC (.str "none")) tNil)) (tCons (tTup tNil) (tCons (tTup (tCons (tC (.str "none")) (tCons (tC (.str "none")) tNil))) (tCons (tTup (tCons (tC .non) tNil)) (tCons (tTup (tCons (tC (.str "piece")) tNil)) tNil))))))))) (tCall (sp__law_draw K) [] E0 (tCons (tVar 0) (tCons (tC (.int 8)) tNil))))) tNext)
    (tSeq (tAsg (tOp (rADD K) (tOp rPOW (tC (.int 10)) (tC (.int 8))) (tCall (sp__law_draw K) [] E0 (tCons (tVar 0) (tCons (tOp rPOW (tC (.int 10)) (tC (.int 30))) tNil)))) (gName 2))
    (tSeq (tAsg (tCall (sp__law_draw K) [] E0 (tCons (tVar 0) (tCons (tCB (rLEN K) (tCons (tVar 1) tNil)) tNil))) (gName 3))
    (tSeq (tAsg (tOp (rIX K) (tLst (tCons (tC (.str "part ")) (tCons (tC (.str "Piece")) (tCons (tC .non) (tCons (tC (.str "none")) (tCons (tC (.int 1)) (tCons (tTup (tCons (tC (.str "part")) tNil)) tNil))))))) (tCall (sp__law_draw K) [] E0 (tCons (tVar 0) (tCons (tC (.int 6)) tNil)))) (gName 4))
    (tSeq (tIfS (tAnd (tTest (tOp (rEQ K) (tVar 3) (tC (.int 0)))) (tTest (tOp (rEQ K) (tOp (rIX K) (tVar 1) (tC (.int 0))) (tC (.str "part"))))) (tAsg (tOp (rIX K) (tLst (tCons (tVar 4) (tCons (tC (.str "piece")) tNil))) (tCall (sp__law_draw K) [] E0 (tCons (tVar 0) (tCons (tC (.int 2)) tNil)))) (gName 4)) tNext)
    (tSeq (tIfS (tAnd (tTest (tOp (rEQ K) (tVar 3) (tC (.int 0)))) (tTest (tOp (rEQ K) (tOp (rIX K) (tVar 1) (tC (.int 0))) (tC (.str "piece"))))) (tAsg (tOp (rIX K) (tLst (tCons (tVar 4) (tCons (tC (.str "part")) tNil))) (tCall (sp__law_draw K) [] E0 (tCons (tVar 0) (tCons (tC (.int 2)) tNil)))) (gName 4)) tNext)
    (tSeq (tIfS (tTest (tOp (rEQ K) (tVar 3) (tC (.int 1)))) (tAsg (tOp (rIX K) (tLst (tCons (tUn rNEG (tC (.int 1))) (tCons (tVar 2) (tCons (tC .non) (tCons (tC (.bl true)) (tCons (tC (.str "1")) (tCons (tTup (tCons (tC (.int 1)) tNil)) tNil))))))) (tCall (sp__law_draw K) [] E0 (tCons (tVar 0) (tCons (tC (.int 6)) tNil)))) (gName 4)) tNext)
    (tSeq (tIfS (tAnd (tTest (tOp (rEQ K) (tVar 3) (tC (.int 1)))) (tAnd (tTest (tOp (rEQ K) (tOp (rIX K) (tVar 1) (tC (.int 0))) (tC (.str "part")))) (tTest (tOp (rEQ K) (tCall (sp__law_draw K) [] E0 (tCons (tVar 0) (tCons (tC (.int 3)) tNil))) (tC (.int 0)))))) (tAsg (tC (.int 0)) (gName 4)) tNext)
    (tSeq (tIfS (tAnd (tTest (tOp (rEQ K) (tVar 3) (tC (.int 2)))) (tTest (tOp (rEQ K) (tOp (rIX K) (tVar 1) (tC (.int 0))) (tC (.str "piece"))))) (tAsg (tOp (rIX K) (tLst (tCons (tUn rNEG (tC (.int 1))) (tCons (tOp (rIX K) (tVar 1) (tC (.int 3))) (tCons (tOp (rADD K) (tOp (rIX K) (tVar 1) (tC (.int 3))) (tVar 2)) (tCons (tC .non) (tCons (tC (.bl false)) (tCons (tC (.str "0")) tNil))))))) (tCall (sp__law_draw K) [] E0 (tCons (tVar 0) (tCons (tC (.int 6)) tNil)))) (gName 4)) tNext)
    (tSeq (tIfS (tTest (tOp (rEQ K) (tVar 3) (tC (.int 3)))) (tAsg (tOp (rIX K) (tLst (tCons (tOp (rIX K) (tVar 1) (tC (.int 2))) (tCons (tC (.int 0)) (tCons (tUn rNEG (tC (.int 1))) (tCons (tC (.int 10000)) (tCons (tOp (rADD K) (tC (.int 10000)) (tVar 2)) (tCons (tC .non) (tCons (tC (.str "1")) tNil)))))))) (tCall (sp__law_draw K) [] E0 (tCons (tVar 0) (tCons (tC (.int 7)) tNil)))) (gName 4)) tNext)
    (tSeq (tIfS (tTest (tOp (rEQ K) (tVar 3) (tOp rSUB (tCB (rLEN K) (tCons (tVar 1) tNil)) (tC (.int 1))))) (tAsg (tCall (sp__law_no_rows K) [] E0 (tCons (tVar 0) tNil)) (gName 4)) tNext)
    (tSeq (tIfS (tAnd (tTest (tOp (rEQ K) (tVar 3) (tC (.int 4)))) (tTest (tOp (rEQ K) (tCall (sp__law_draw K) [] E0 (tCons (tVar 0) (tCons (tC (.int 3)) tNil))) (tC (.int 0))))) (tAsg (tTup (tCons (tTup (tCons (tC (.str "a")) (tCons (tC (.str "x")) tNil))) (tCons (tTup (tCons (tC (.str "b")) (tCons (tC .non) tNil))) tNil))) (gName 4)) tNext)
    (tRet (tOp (rADD K) (tOp (rADD K) (tSl (rSL K) (tVar 1) tNoPart (tPart (tVar 3))) (tTup (tCons (tVar 4) tNil))) (tSl (rSL K) (tVar 1) (tPart (tOp (rADD K) (tVar 3) (tC (.int 1)))) tNoPart)))))))))))))))
theorem b__law_bent (Y : Fx K mg) {sp__law_draw : PySem.W.Frag → Sp} {sp__law_no_rows : PySem.W.Frag → Sp} (G__law_draw : FnOk P w K mg base CX0 1 Y.a__law_draw Y.fd__law_draw ["_law_well_here", "_law_many"] (sp__law_draw K)) (G__law_no_rows : FnOk P w K mg base CX0 2 Y.a__law_no_rows Y.fd__law_no_rows ["_law_well_here"] (sp__law_no_rows K)) {f : Addr} {cdv : Value} {A : Around} {outer : List Env} {s : Shared} {H : Hp} {E : XK} (hr : Room 2 (A.deeper (envOfC "_law_bent" (defScope s__law_bent) s.heap.objs.size f cdv))) :
    PSs (cxOf CX0 P w K mg base ["_law_well_here", "_law_letter_here", "_law_far", "_law_at", "_law_bad"] "_law_bent" (defScope s__law_bent) f cdv A outer s H E).nox (defBody s__law_bent) (t__law_bent K sp__law_draw sp__law_no_rows) :=
    (pss_cons (ps_if (pt_cmpR (op_EQ (hu_64 hr)) (pe_ix ix_SEQ (pv 1) pe_int (fun _ _ => rfl)) pe_str (nomark _)) (pss_one (ps_ret (pe_ix ix_SEQ (pe_lst (pa_cons (pe_tup (pa_cons pe_str (pa_cons pe_int pa_nil))) (pa_cons (pe_tup (pa_cons pe_str pa_nil)) (pa_cons pe_str (pa_cons (pe_lst (pa_cons pe_str pa_nil)) (pa_cons (pe_tup pa_nil) (pa_cons (pe_tup (pa_cons pe_str (pa_cons pe_str pa_nil))) (pa_cons (pe_tup (pa_cons pe_non pa_nil)) (pa_cons (pe_tup (pa_cons pe_str pa_nil)) pa_nil))))))))) (pe_call G__law_draw (hr.mono (by decide)) (by rfl) Y.g__law_draw Y.F__law_draw.kp Y.b__law_draw .nil pass0 (pa_cons (pv 0) (pa_cons pe_int pa_nil))) (fun _ _ => rfl)))) pss_nil)
    (pss_cons (ps_set (i := 2) sc__law_bent.nd rfl (Or.inl rfl) (pe_op op_ADD (pe_op op_POW pe_int pe_int) (pe_call G__law_draw (hr.mono (by decide)) (by rfl) Y.g__law_draw Y.F__law_draw.kp Y.b__law_draw .nil pass0 (pa_cons (pv 0) (pa_cons (pe_op op_POW pe_int pe_int) pa_nil)))))
    (pss_cons (ps_set (i := 3) sc__law_bent.nd rfl (Or.inl rfl) (pe_call G__law_draw (hr.mono (by decide)) (by rfl) Y.g__law_draw Y.F__law_draw.kp Y.b__law_draw .nil pass0 (pa_cons (pv 0) (pa_cons (pe_callB call_LEN (by rfl) Y.m_len (by decide +kernel) (pa_cons (pv 1) pa_nil)) pa_nil))))
    (pss_cons (ps_set (i := 4) sc__law_bent.nd rfl (Or.inl rfl) (pe_ix ix_SEQ (pe_lst (pa_cons pe_str (pa_cons pe_str (pa_cons pe_non (pa_cons pe_str (pa_cons pe_int (pa_cons (pe_tup (pa_cons pe_str pa_nil)) pa_nil))))))) (pe_call G__law_draw (hr.mono (by decide)) (by rfl) Y.g__law_draw Y.F__law_draw.kp Y.b__law_draw .nil pass0 (pa_cons (pv 0) (pa_cons pe_int pa_nil))) (fun _ _ => rfl)))
    (pss_cons (ps_if (PW.pt (pw_and (pt_cmpR (op_EQ (hu_64 hr)) (pv 3) pe_int (nomark _)) (pw_and1 (pt_cmpR (op_EQ (hu_64 hr)) (pe_ix ix_SEQ (pv 1) pe_int (fun _ _ => rfl)) pe_str (nomark _))))) (pss_one (ps_set (i := 4) sc__law_bent.nd rfl (Or.inl rfl) (pe_ix ix_SEQ (pe_lst (pa_cons (pv 4) (pa_cons pe_str pa_nil))) (pe_call G__law_draw (hr.mono (by decide)) (by rfl) Y.g__law_draw Y.F__law_draw.kp Y.b__law_draw .nil pass0 (pa_cons (pv 0) (pa_cons pe_int pa_nil))) (fun _ _ => rfl)))) pss_nil)
    (pss_cons (ps_if (PW.pt (pw_and (pt_cmpR (op_EQ (hu_64 hr)) (pv 3) pe_int (nomark _)) (pw_and1 (pt_cmpR (op_EQ (hu_64 hr)) (pe_ix ix_SEQ (pv 1) pe_int (fun _ _ => rfl)) pe_str (nomark _))))) (pss_one (ps_set (i := 4) sc__law_bent.nd rfl (Or.inl rfl) (pe_ix ix_SEQ (pe_lst (pa_cons (pv 4) (pa_cons pe_str pa_nil))) (pe_call G__law_draw (hr.mono (by decide)) (by rfl) Y.g__law_draw Y.F__law_draw.kp Y.b__law_draw .nil pass0 (pa_cons (pv 0) (pa_cons pe_int pa_nil))) (fun _ _ => rfl)))) pss_nil)
    (pss_cons (ps_if (pt_cmpR (op_EQ (hu_64 hr)) (pv 3) pe_int (nomark _)) (pss_one (ps_set (i := 4) sc__law_bent.nd rfl (Or.inl rfl) (pe_ix ix_SEQ (pe_lst (pa_cons (pe_un un_NEG pe_int) (pa_cons (pv 2) (pa_cons pe_non (pa_cons pe_bl (pa_cons pe_str (pa_cons (pe_tup (pa_cons pe_int pa_nil)) pa_nil))))))) (pe_call G__law_draw (hr.mono (by decide)) (by rfl) Y.g__law_draw Y.F__law_draw.kp Y.b__law_draw .nil pass0 (pa_cons (pv 0) (pa_cons pe_int pa_nil))) (fun _ _ => rfl)))) pss_nil)
    (pss_cons (ps_if (PW.pt (pw_and (pt_cmpR (op_EQ (hu_64 hr)) (pv 3) pe_int (nomark _)) (pw_and (pt_cmpR (op_EQ (hu_64 hr)) (pe_ix ix_SEQ (pv 1) pe_int (fun _ _ => rfl)) pe_str (nomark _)) (pw_and1 (pt_cmpR (op_EQ (hu_64 hr)) (pe_call G__law_draw (hr.mono (by decide)) (by rfl) Y.g__law_draw Y.F__law_draw.kp Y.b__law_draw .nil pass0 (pa_cons (pv 0) (pa_cons pe_int pa_nil))) pe_int (nomark _)))))) (pss_one (ps_set (i := 4) sc__law_bent.nd rfl (Or.inl rfl) pe_int)) pss_nil)
    (pss_cons (ps_if (PW.pt (pw_and (pt_cmpR (op_EQ (hu_64 hr)) (pv 3) pe_int (nomark _)) (pw_and1 (pt_cmpR (op_EQ (hu_64 hr)) (pe_ix ix_SEQ (pv 1) pe_int (fun _ _ => rfl)) pe_str (nomark _))))) (pss_one (ps_set (i := 4) sc__law_bent.nd rfl (Or.inl rfl) (pe_ix ix_SEQ (pe_lst (pa_cons (pe_un un_NEG pe_int) (pa_cons (pe_ix ix_SEQ (pv 1) pe_int (fun _ _ => rfl)) (pa_cons (pe_op op_ADD (pe_ix ix_SEQ (pv 1) pe_int (fun _ _ => rfl)) (pv 2)) (pa_cons pe_non (pa_cons pe_bl (pa_cons pe_str pa_nil))))))) (pe_call G__law_draw (hr.mono (by decide)) (by rfl) Y.g__law_draw Y.F__law_draw.kp Y.b__law_draw .nil pass0 (pa_cons (pv 0) (pa_cons pe_int pa_nil))) (fun _ _ => rfl)))) pss_nil)
    (pss_cons (ps_if (pt_cmpR (op_EQ (hu_64 hr)) (pv 3) pe_int (nomark _)) (pss_one (ps_set (i := 4) sc__law_bent.nd rfl (Or.inl rfl) (pe_ix ix_SEQ (pe_lst (pa_cons (pe_ix ix_SEQ (pv 1) pe_int (fun _ _ => rfl)) (pa_cons pe_int (pa_cons (pe_un un_NEG pe_int) (pa_cons pe_int (pa_cons (pe_op op_ADD pe_int (pv 2)) (pa_cons pe_non (pa_cons pe_str pa_nil)))))))) (pe_call G__law_draw (hr.mono (by decide)) (by rfl) Y.g__law_draw Y.F__law_draw.kp Y.b__law_draw .nil pass0 (pa_cons (pv 0) (pa_cons pe_int pa_nil))) (fun _ _ => rfl)))) pss_nil)
    (pss_cons (ps_if (pt_cmpR (op_EQ (hu_64 hr)) (pv 3) (pe_op op_SUB (pe_callB call_LEN (by rfl) Y.m_len (by decide +kernel) (pa_cons (pv 1) pa_nil)) pe_int) (nomark _)) (pss_one (ps_set (i := 4) sc__law_bent.nd rfl (Or.inl rfl) (pe_call G__law_no_rows (hr.mono (by decide)) (by rfl) Y.g__law_no_rows Y.F__law_no_rows.kp Y.b__law_no_rows .nil pass0 (pa_cons (pv 0) pa_nil)))) pss_nil)
    (pss_cons (ps_if (PW.pt (pw_and (pt_cmpR (op_EQ (hu_64 hr)) (pv 3) pe_int (nomark _)) (pw_and1 (pt_cmpR (op_EQ (hu_64 hr)) (pe_call G__law_draw (hr.mono (by decide)) (by rfl) Y.g__law_draw Y.F__law_draw.kp Y.b__law_draw .nil pass0 (pa_cons (pv 0) (pa_cons pe_int pa_nil))) pe_int (nomark _))))) (pss_one (ps_set (i := 4) sc__law_bent.nd rfl (Or.inl rfl) (pe_tup (pa_cons (pe_tup (pa_cons pe_str (pa_cons pe_str pa_nil))) (pa_cons (pe_tup (pa_cons pe_str (pa_cons pe_non pa_nil))) pa_nil))))) pss_nil)
    (pss_one (ps_ret (pe_op op_ADD (pe_op op_ADD (pe_slice sl_SEQ (pv 1) po_none (po_some (pv 3))) (pe_tup (pa_cons (pv 4) pa_nil))) (pe_slice sl_SEQ (pv 1) (po_some (pe_op op_ADD (pv 3) pe_int)) po_none))))))))))))))))
def t__law_spoilt (K : PySem.W.Frag) (sp__law_draw : PySem.W.Frag → Sp) : TS :=
    (tSeq (tAsg (tCall (sp__law_draw K) [] E0 (tCons (tVar 0) (tCons (tCB (rLEN K) (tCons (tVar 1) tNil)) tNil))) (gName 2))
    (tSeq (tAsg (tOp (rIX K) (tLst (tCons (tC (.str "0")) (tCons (tC (.str "1")) (tCons (tC (.str "9")) (tCons (tC (.str "+")) (tCons (tC (.str "-")) (tCons (tC (.str "a")) (tCons (tC (.str "P")) (tCons (tC (.str "S")) tNil))))))))) (tCall (sp__law_draw K) [] E0 (tCons (tVar 0) (tCons (tC (.int 8)) tNil)))) (gName 3))
    (tSeq (tAsg (tLst (tCons (tOp (rADD K) (tSl (rSL K) (tVar 1) tNoPart (tPart (tVar 2))) (tSl (rSL K) (tVar 1) (tPart (tOp (rADD K) (tVar 2) (tC (.int 1)))) tNoPart)) (tCons (tOp (rADD K) (tOp (rADD K) (tSl (rSL K) (tVar 1) tNoPart (tPart (tVar 2))) (tVar 3)) (tSl (rSL K) (tVar 1) (tPart (tVar 2)) tNoPart)) (tCons (tOp (rADD K) (tOp (rADD K) (tSl (rSL K) (tVar 1) tNoPart (tPart (tVar 2))) (tVar 3)) (tSl (rSL K) (tVar 1) (tPart (tOp (rADD K) (tVar 2) (tC (.int 1)))) tNoPart)) (tCons (tSl (rSL K) (tVar 1) tNoPart (tPart (tVar 2))) (tCons (tOp (rADD K) (tVar 1) (tVar 1)) tNil)))))) (gName 4))
    (tSeq (tAsg (tBM K "str" (rJoin K) (tC (.str "")) (tCons (tLc (iRng1 (tCons (tCall (sp__law_draw K) [] E0 (tCons (tVar 0) (tCons (tC (.int 20)) tNil))) tNil)) (gName 6) tYes (tOp (rIX K) (tC (.str "01+-")) (tCall (sp__law_draw K) [] E0 (tCons (tVar 0) (tCons (tC (.int 4)) tNil)))) [6]) tNil)) (gName 5))
    (tSeq (tAsg (tOp (rADD K) (tVar 4) (tLst (tCons (tOp (rADD K) (tVar 1) (tVar 3)) (tCons (tOp (rADD K) (tOp (rIX K) (tLst (tCons (tC (.str "P0000000")) (tCons (tC (.str "S0000000000000000")) (tCons (tC (.str "S000000010000000")) (tCons (tC (.str "N")) (tCons (tC (.str "")) tNil)))))) (tCall (sp__law_draw K) [] E0 (tCons (tVar 0) (tCons (tC (.int 5)) tNil)))) (tVar 5)) tNil)))) (gName 4))
    (tRet (tOp (rIX K) (tVar 4) (tCall (sp__law_draw K) [] E0 (tCons (tVar 0) (tCons (tC (.int 7)) tNil))))))))))
theorem b__law_spoilt (Y : Fx K mg) {sp__law_draw : PySem.W.Frag → Sp} (G__law_draw : FnOk P w K mg base CX0 1 Y.a__law_draw Y.fd__law_draw ["_law_well_here", "_law_many"] (sp__law_draw K)) {f : Addr} {cdv : Value} {A : Around} {outer : List Env} {s : Shared} {H : Hp} {E : XK} (hr : Room 1 (A.deeper (envOfC "_law_spoilt" (defScope s__law_spoilt) s.heap.objs.size f cdv))) :
    PSs (cxOf CX0 P w K mg base ["_law_well_here", "_law_text_here", "_law_at", "_law_sign_here", "_law_some", "_law_drawn", "_law_k"] "_law_spoilt" (defScope s__law_spoilt) f cdv A outer s H E).nox (defBody s__law_spoilt) (t__law_spoilt K sp__law_draw) :=
    (pss_cons (ps_set (i := 2) sc__law_spoilt.nd rfl (Or.inl rfl) (pe_call G__law_draw (hr.mono (by decide)) (by rfl) Y.g__law_draw Y.F__law_draw.kp Y.b__law_draw .nil pass0 (pa_cons (pv 0) (pa_cons (pe_callB call_LEN (by rfl) Y.m_len (by decide +kernel) (pa_cons (pv 1) pa_nil)) pa_nil))))
    (pss_cons (ps_set (i := 3) sc__law_spoilt.nd rfl (Or.inl rfl) (pe_ix ix_SEQ (pe_lst (pa_cons pe_str (pa_cons pe_str (pa_cons pe_str (pa_cons pe_str (pa_cons pe_str (pa_cons pe_str (pa_cons pe_str (pa_cons pe_str pa_nil))))))))) (pe_call G__law_draw (hr.mono (by decide)) (by rfl) Y.g__law_draw Y.F__law_draw.kp Y.b__law_draw .nil pass0 (pa_cons (pv 0) (pa_cons pe_int pa_nil))) (fun _ _ => rfl)))
    (pss_cons (ps_set (i := 4) sc__law_spoilt.nd rfl (Or.inl rfl) (pe_lst (pa_cons (pe_op op_ADD (pe_slice sl_SEQ (pv 1) po_none (po_some (pv 2))) (pe_slice sl_SEQ (pv 1) (po_some (pe_op op_ADD (pv 2) pe_int)) po_none)) (pa_cons (pe_op op_ADD (pe_op op_ADD (pe_slice sl_SEQ (pv 1) po_none (po_some (pv 2))) (pv 3)) (pe_slice sl_SEQ (pv 1) (po_some (pv 2)) po_none)) (pa_cons (pe_op op_ADD (pe_op op_ADD (pe_slice sl_SEQ (pv 1) po_none (po_some (pv 2))) (pv 3)) (pe_slice sl_SEQ (pv 1) (po_some (pe_op op_ADD (pv 2) pe_int)) po_none)) (pa_cons (pe_slice sl_SEQ (pv 1) po_none (po_some (pv 2))) (pa_cons (pe_op op_ADD (pv 1) (pv 1)) pa_nil)))))))
    (pss_cons (ps_set (i := 5) sc__law_spoilt.nd rfl (Or.inl rfl) (pe_bm PySem.F.plainAttrs_str PySem.F.slot_str_join PySem.F.type_str_join mt_join pe_str (pa_cons (pe_lc (own := [("_law_k", 6)]) (by rfl) sc__law_spoilt.nd (pi_range1 (by rfl) Y.m_range (pa_cons (pe_call G__law_draw (hr.mono (by decide)) (by rfl) Y.g__law_draw Y.F__law_draw.kp Y.b__law_draw .nil pass0 (pa_cons (pv 0) (pa_cons pe_int pa_nil))) pa_nil)) (blkOk_by (own := [("_law_k", 6)]) (N := ["_law_well_here", "_law_text_here", "_law_at", "_law_sign_here", "_law_some", "_law_drawn", "_law_k"]) (sc := defScope s__law_spoilt) (by decide +kernel)) (fun _ _ _ _ _ => (pg_name (i := 6) sc__law_spoilt.nd rfl (Or.inl rfl))) (fun _ _ _ _ _ => pts_nil) (fun _ _ _ _ _ => (pe_ix ix_SEQ pe_str (pe_call G__law_draw (hr.mono (by decide)) (by rfl) Y.g__law_draw Y.F__law_draw.kp Y.b__law_draw .nil pass0 (pa_cons (pv 0) (pa_cons pe_int pa_nil))) (fun _ _ => rfl)))) pa_nil)))
    (pss_cons (ps_set (i := 4) sc__law_spoilt.nd rfl (Or.inl rfl) (pe_op op_ADD (pv 4) (pe_lst (pa_cons (pe_op op_ADD (pv 1) (pv 3)) (pa_cons (pe_op op_ADD (pe_ix ix_SEQ (pe_lst (pa_cons pe_str (pa_cons pe_str (pa_cons pe_str (pa_cons pe_str (pa_cons pe_str pa_nil)))))) (pe_call G__law_draw (hr.mono (by decide)) (by rfl) Y.g__law_draw Y.F__law_draw.kp Y.b__law_draw .nil pass0 (pa_cons (pv 0) (pa_cons pe_int pa_nil))) (fun _ _ => rfl)) (pv 5)) pa_nil)))))
    (pss_one (ps_ret (pe_ix ix_SEQ (pv 4) (pe_call G__law_draw (hr.mono (by decide)) (by rfl) Y.g__law_draw Y.F__law_draw.kp Y.b__law_draw .nil pass0 (pa_cons (pv 0) (pa_cons pe_int pa_nil))) (fun _ _ => rfl)))))))))
def t__law_told (K : PySem.W.Frag) {mg : Str → Option Value} (Y : Fx K mg) (sp_letter_told : PySem.W.Frag → Sp) : TS :=
    (tSeq (tAsg (tC .non) (gName 1))
    (tSeq (tTry K W0 [(.ref Y.x_InvalidLetter, fun _ _ _ => (tAsg (tC .non) (gName 1)))] (fun W => (tAsg (tCallS (sp_letter_told K) (WE W) (tCons (tVar 0) tNil)) (gName 1))))
    (tRet (tVar 1))))
theorem b__law_told (Y : Fx K mg) {sp_letter_told : PySem.W.Frag → Sp} (G_letter_told : FnOk P w K mg base (L2.CX P w) 7 Y.a_letter_told Y.fd_letter_told ["text"] (sp_letter_told K)) {f : Addr} {cdv : Value} {A : Around} {outer : List Env} {s : Shared} {H : Hp} {E : XK} (hr : Room 7 (A.deeper (envOfC "_law_told" (defScope s__law_told) s.heap.objs.size f cdv))) :
    PSs (cxOf CX0 P w K mg base ["_law_text_here", "_law_found"] "_law_told" (defScope s__law_told) f cdv A outer s H E).nox (defBody s__law_told) (t__law_told K Y sp_letter_told) :=
    (pss_cons (ps_set (i := 1) sc__law_told.nd rfl (Or.inl rfl) pe_non)
    (pss_cons (ps_tryM (tb := fun W => (tAsg (tCallS (sp_letter_told K) (WE W) (tCons (tVar 0) tNil)) (gName 1))) (l := [(.ref Y.x_InvalidLetter, fun _ _ _ => (tAsg (tC .non) (gName 1)))]) (Wout := W0) rfl rfl takes0 (fun W pn xe tk po => (pss_one (ps_set (i := 1) sc__law_told.nd rfl (Or.inl rfl) (pe_callS G_letter_told (hr.mono (by decide)) (by rfl) Y.g_letter_told Y.F_letter_told.kp Y.b_letter_told (fun σ => passAt tk σ) (pa_cons (pv 0) pa_nil))))) (.cons ⟨rfl, by decide, Or.inl Y.q_InvalidLetter⟩ (fun a oe cls d pn _ _ => (pss_one (ps_set (i := 1) sc__law_told.nd rfl (Or.inl rfl) pe_non))) .nil))
    (pss_one (ps_ret (pv 1)))))
def t__law_no_text (K : PySem.W.Frag) {mg : Str → Option Value} (Y : Fx K mg) (sp_letter_told : PySem.W.Frag → Sp) : TS :=
    (tSeq (tAsg (tC (.bl false)) (gName 1))
    (tSeq (tTry K W0 [(.ref Y.x_InvalidText, fun _ _ _ => (tAsg (tC (.bl true)) (gName 1)))] (fun W => (tDrop (tCallS (sp_letter_told K) (WE W) (tCons (tVar 0) tNil)))))
    (tRet (tVar 1))))
theorem b__law_no_text (Y : Fx K mg) {sp_letter_told : PySem.W.Frag → Sp} (G_letter_told : FnOk P w K mg base (L2.CX P w) 7 Y.a_letter_told Y.fd_letter_told ["text"] (sp_letter_told K)) {f : Addr} {cdv : Value} {A : Around} {outer : List Env} {s : Shared} {H : Hp} {E : XK} (hr : Room 7 (A.deeper (envOfC "_law_no_text" (defScope s__law_no_text) s.heap.objs.size f cdv))) :
    PSs (cxOf CX0 P w K mg base ["_law_value", "_law_word"] "_law_no_text" (defScope s__law_no_text) f cdv A outer s H E).nox (defBody s__law_no_text) (t__law_no_text K Y sp_letter_told) :=
    (pss_cons (ps_set (i := 1) sc__law_no_text.nd rfl (Or.inl rfl) pe_bl)
    (pss_cons (ps_tryM (tb := fun W => (tDrop (tCallS (sp_letter_told K) (WE W) (tCons (tVar 0) tNil)))) (l := [(.ref Y.x_InvalidText, fun _ _ _ => (tAsg (tC (.bl true)) (gName 1)))]) (Wout := W0) rfl rfl takes0 (fun W pn xe tk po => (pss_one (ps_expr (pe_callS G_letter_told (hr.mono (by decide)) (by rfl) Y.g_letter_told Y.F_letter_told.kp Y.b_letter_told (fun σ => passAt tk σ) (pa_cons (pv 0) pa_nil))))) (.cons ⟨rfl, by decide, Or.inl Y.q_InvalidText⟩ (fun a oe cls d pn _ _ => (pss_one (ps_set (i := 1) sc__law_no_text.nd rfl (Or.inl rfl) pe_bl))) .nil))
    (pss_one (ps_ret (pv 1)))))
def t__law_no_letter (K : PySem.W.Frag) {mg : Str → Option Value} (Y : Fx K mg) (sp_letter_text : PySem.W.Frag → Sp) : TS :=
    (tSeq (tAsg (tC (.bl false)) (gName 1))
    (tSeq (tTry K W0 [(.ref Y.x_InvalidLetter, fun _ _ _ => (tAsg (tC (.bl true)) (gName 1)))] (fun W => (tDrop (tCallS (sp_letter_text K) (WE W) (tCons (tVar 0) tNil)))))
    (tRet (tVar 1))))
theorem b__law_no_letter (Y : Fx K mg) {sp_letter_text : PySem.W.Frag → Sp} (G_letter_text : FnOk P w K mg base (L2.CX P w) 7 Y.a_letter_text Y.fd_letter_text ["letter"] (sp_letter_text K)) {f : Addr} {cdv : Value} {A : Around} {outer : List Env} {s : Shared} {H : Hp} {E : XK} (hr : Room 7 (A.deeper (envOfC "_law_no_letter" (defScope s__law_no_letter) s.heap.objs.size f cdv))) :
    PSs (cxOf CX0 P w K mg base ["_law_value", "_law_word"] "_law_no_letter" (defScope s__law_no_letter) f cdv A outer s H E).nox (defBody s__law_no_letter) (t__law_no_letter K Y sp_letter_text) :=
    (pss_cons (ps_set (i := 1) sc__law_no_letter.nd rfl (Or.inl rfl) pe_bl)
    (pss_cons (ps_tryM (tb := fun W => (tDrop (tCallS (sp_letter_text K) (WE W) (tCons (tVar 0) tNil)))) (l := [(.ref Y.x_InvalidLetter, fun _ _ _ => (tAsg (tC (.bl true)) (gName 1)))]) (Wout := W0) rfl rfl takes0 (fun W pn xe tk po => (pss_one (ps_expr (pe_callS G_letter_text (hr.mono (by decide)) (by rfl) Y.g_letter_text Y.F_letter_text.kp Y.b_letter_text (fun σ => passAt tk σ) (pa_cons (pv 0) pa_nil))))) (.cons ⟨rfl, by decide, Or.inl Y.q_InvalidLetter⟩ (fun a oe cls d pn _ _ => (pss_one (ps_set (i := 1) sc__law_no_letter.nd rfl (Or.inl rfl) pe_bl))) .nil))
    (pss_one (ps_ret (pv 1)))))
def t_law (K : PySem.W.Frag) (sp__law_bent : PySem.W.Frag → Sp) (sp__law_draw : PySem.W.Frag → Sp) (sp__law_letter : PySem.W.Frag → Sp) (sp__law_no_letter : PySem.W.Frag → Sp) (sp__law_no_text : PySem.W.Frag → Sp) (sp__law_read : PySem.W.Frag → Sp) (sp__law_same : PySem.W.Frag → Sp) (sp__law_spoilt : PySem.W.Frag → Sp) (sp__law_told : PySem.W.Frag → Sp) (sp__law_well : PySem.W.Frag → Sp) (sp__law_written : PySem.W.Frag → Sp) (sp_is_letter : PySem.W.Frag → Sp) (sp_letter_text : PySem.W.Frag → Sp) (sp_letter_told : PySem.W.Frag → Sp) : TS :=
    (tSeq (tFor (iList K (tSl (rSL K) (tOp (rADD K) (tCB (rLIST K) (tCons (tVar 0) tNil)) (tLst (tCons (tC (.int 0)) tNil))) tNoPart (tPart (tC (.int 12))))) (gName 1) (tSeq (tAsg (tCall (sp__law_well K) [] E0 (tCons (tVar 1) tNil)) (gName 2))
      (tSeq (tAsg (tCall (sp__law_letter K) [] E0 (tCons (tVar 2) tNil)) (gName 3))
      (tSeq (tAsg (tCall (sp__law_written K) [] E0 (tCons (tVar 3) tNil)) (gName 4))
      (tSeq (tIfS (tOr (tTest (tOp (rISN K) (tCallK0 (sp_is_letter K) gV_kb_is_letter_0 E0 (tCons (tVar 3) tNil)) (tC (.bl true)))) (tNot (tTru1 K (tCall (sp__law_same K) [] E0 (tCons (tCallK0 (sp_letter_text K) gV_kb_letter_text_0 E0 (tCons (tVar 3) tNil)) (tCons (tVar 4) tNil)))))) (tRet (tC (.bl false))) tNext)
      (tSeq (tIfS (tNot (tTru1 K (tCall (sp__law_same K) [] E0 (tCons (tCallK0 (sp_letter_told K) gV_kb_letter_told_0 E0 (tCons (tVar 4) tNil)) (tCons (tVar 3) tNil))))) (tRet (tC (.bl false))) tNext)
      (tSeq (tFor (iRng1 (tCons (tC (.int 3)) tNil)) (gName 5) (tSeq (tAsg (tCall (sp__law_bent K) [] E0 (tCons (tVar 2) (tCons (tVar 3) tNil))) (gName 6))
        (tSeq (tIfS (tOr (tTest (tOp (rISN K) (tCall (sp_is_letter K) [] E0 (tCons (tVar 6) tNil)) (tC (.bl false)))) (tNot (tTru1 K (tCall (sp__law_no_letter K) [] E0 (tCons (tVar 6) tNil))))) (tRet (tC (.bl false))) tNext)
        (tSeq (tAsg (tCall (sp__law_spoilt K) [] E0 (tCons (tVar 2) (tCons (tVar 4) tNil))) (gName 7))
        (tIfS (tNot (tTru1 K (tCall (sp__law_same K) [] E0 (tCons (tCall (sp__law_told K) [] E0 (tCons (tVar 7) tNil)) (tCons (tCall (sp__law_read K) [] E0 (tCons (tVar 7) tNil)) tNil))))) (tRet (tC (.bl false))) tNext)))))
      (tIfS (tNot (tTru1 K (tCall (sp__law_no_text K) [] E0 (tCons (tOp (rIX K) (tLst (tCons (tC .non) (tCons (tC (.int 7)) (tCons (tOp (rADD K) (tVar 4) (tC (.str "\n"))) (tCons (tLst (tCons (tVar 4) tNil)) (tCons (tTup (tCons (tVar 4) tNil)) (tCons (tC (.bl true)) tNil))))))) (tCall (sp__law_draw K) [] E0 (tCons (tVar 2) (tCons (tC (.int 6)) tNil)))) tNil)))) (tRet (tC (.bl false))) tNext))))))))
    (tRet (tC (.bl true))))
theorem b_law (Y : Fx K mg) {sp__law_bent : PySem.W.Frag → Sp} {sp__law_draw : PySem.W.Frag → Sp} {sp__law_letter : PySem.W.Frag → Sp} {sp__law_no_letter : PySem.W.Frag → Sp} {sp__law_no_text : PySem.W.Frag → Sp} {sp__law_read : PySem.W.Frag → Sp} {sp__law_same : PySem.W.Frag → Sp} {sp__law_spoilt : PySem.W.Frag → Sp} {sp__law_told : PySem.W.Frag → Sp} {sp__law_well : PySem.W.Frag → Sp} {sp__law_written : PySem.W.Frag → Sp} {sp_is_letter : PySem.W.Frag → Sp} {sp_letter_text : PySem.W.Frag → Sp} {sp_letter_told : PySem.W.Frag → Sp} (G__law_bent : FnOk P w K mg base CX0 3 Y.a__law_bent Y.fd__law_bent ["_law_well_here", "_law_letter_here"] (sp__law_bent K)) (G__law_draw : FnOk P w K mg base CX0 1 Y.a__law_draw Y.fd__law_draw ["_law_well_here", "_law_many"] (sp__law_draw K)) (G__law_letter : FnOk P w K mg base CX0 5 Y.a__law_letter Y.fd__law_letter ["_law_well_here"] (sp__law_letter K)) (G__law_no_letter : FnOk P w K mg base CX0 8 Y.a__law_no_letter Y.fd__law_no_letter ["_law_value"] (sp__law_no_letter K)) (G__law_no_text : FnOk P w K mg base CX0 8 Y.a__law_no_text Y.fd__law_no_text ["_law_value"] (sp__law_no_text K)) (G__law_read : FnOk P w K mg base CX0 3 Y.a__law_read Y.fd__law_read ["_law_text_here"] (sp__law_read K)) (G__law_same : FnOk P w K mg base CX0 5 Y.a__law_same Y.fd__law_same ["_law_found", "_law_due"] (sp__law_same K)) (G__law_spoilt : FnOk P w K mg base CX0 2 Y.a__law_spoilt Y.fd__law_spoilt ["_law_well_here", "_law_text_here"] (sp__law_spoilt K)) (G__law_told : FnOk P w K mg base CX0 8 Y.a__law_told Y.fd__law_told ["_law_text_here"] (sp__law_told K)) (G__law_well : FnOk P w K mg base CX0 1 Y.a__law_well Y.fd__law_well ["_law_cell"] (sp__law_well K)) (G__law_written : FnOk P w K mg base CX0 2 Y.a__law_written Y.fd__law_written ["_law_letter_here"] (sp__law_written K)) (G_is_letter : FnOk P w K mg base CX0 5 Y.a_is_letter Y.fd_is_letter ["value"] (sp_is_letter K)) (G_letter_text : FnOk P w K mg base (L2.CX P w) 7 Y.a_letter_text Y.fd_letter_text ["letter"] (sp_letter_text K)) (G_letter_told : FnOk P w K mg base (L2.CX P w) 7 Y.a_letter_told Y.fd_letter_told ["text"] (sp_letter_told K)) {f : Addr} {cdv : Value} {A : Around} {outer : List Env} {s : Shared} {H : Hp} {E : XK} (hr : Room 8 (A.deeper (envOfC "law" (defScope s_law) s.heap.objs.size f cdv))) :
    PSs (cxOf CX0 P w K mg base ["_law_script", "_law_cell", "_law_well_here", "_law_letter_here", "_law_text_here", "_law_turn", "_law_bent_here", "_law_spoilt_here"] "law" (defScope s_law) f cdv A outer s H E).nox (defBody s_law) (t_law K sp__law_bent sp__law_draw sp__law_letter sp__law_no_letter sp__law_no_text sp__law_read sp__law_same sp__law_spoilt sp__law_told sp__law_well sp__law_written sp_is_letter sp_letter_text sp_letter_told) :=
    (pss_cons (ps_for PassesOwn.never rfl (pi_list (pe_slice sl_SEQ (pe_op op_ADD (pe_callTy call_LIST (by rfl) Y.m_list (by decide +kernel) (pa_cons (pv 0) pa_nil)) (pe_lst (pa_cons pe_int pa_nil))) po_none (po_some pe_int))) (pg_name (i := 1) sc_law.nd rfl (Or.inl rfl)) (pss_cons (ps_set (i := 2) sc_law.nd rfl (Or.inl rfl) (pe_call G__law_well (hr.mono (by decide)) (by rfl) Y.g__law_well Y.F__law_well.kp Y.b__law_well .nil pass0 (pa_cons (pv 1) pa_nil)))
      (pss_cons (ps_set (i := 3) sc_law.nd rfl (Or.inl rfl) (pe_call G__law_letter (hr.mono (by decide)) (by rfl) Y.g__law_letter Y.F__law_letter.kp Y.b__law_letter .nil pass0 (pa_cons (pv 2) pa_nil)))
      (pss_cons (ps_set (i := 4) sc_law.nd rfl (Or.inl rfl) (pe_call G__law_written (hr.mono (by decide)) (by rfl) Y.g__law_written Y.F__law_written.kp Y.b__law_written .nil pass0 (pa_cons (pv 3) pa_nil)))
      (pss_cons (ps_if (PW.pt (pw_or (pt_cmpR op_ISN (pe_callK0 G_is_letter (hr.mono (by decide)) (by rfl) Y.g_is_letter Y.F_is_letter.kp Y.kb_is_letter_0 pass0 (pk_cons (pv 3) pk_nil)) pe_bl (nomark _)) (pw_or1 (pt_not (pt_tru (pe_call G__law_same (hr.mono (by decide)) (by rfl) Y.g__law_same Y.F__law_same.kp Y.b__law_same .nil pass0 (pa_cons (pe_callK0 G_letter_text (hr.mono (by decide)) (by rfl) Y.g_letter_text Y.F_letter_text.kp Y.kb_letter_text_0 passL (pk_cons (pv 3) pk_nil)) (pa_cons (pv 4) pa_nil))) (by intro _; rfl)))))) (pss_one (ps_ret pe_bl)) pss_nil)
      (pss_cons (ps_if (pt_not (pt_tru (pe_call G__law_same (hr.mono (by decide)) (by rfl) Y.g__law_same Y.F__law_same.kp Y.b__law_same .nil pass0 (pa_cons (pe_callK0 G_letter_told (hr.mono (by decide)) (by rfl) Y.g_letter_told Y.F_letter_told.kp Y.kb_letter_told_0 passL (pk_cons (pv 4) pk_nil)) (pa_cons (pv 3) pa_nil))) (by intro _; rfl))) (pss_one (ps_ret pe_bl)) pss_nil)
      (pss_cons (ps_for PassesOwn.never rfl (pi_range1 (by rfl) Y.m_range (pa_cons pe_int pa_nil)) (pg_name (i := 5) sc_law.nd rfl (Or.inl rfl)) (pss_cons (ps_set (i := 6) sc_law.nd rfl (Or.inl rfl) (pe_call G__law_bent (hr.mono (by decide)) (by rfl) Y.g__law_bent Y.F__law_bent.kp Y.b__law_bent .nil pass0 (pa_cons (pv 2) (pa_cons (pv 3) pa_nil))))
        (pss_cons (ps_if (PW.pt (pw_or (pt_cmpR op_ISN (pe_call G_is_letter (hr.mono (by decide)) (by rfl) Y.g_is_letter Y.F_is_letter.kp Y.b_is_letter .nil pass0 (pa_cons (pv 6) pa_nil)) pe_bl (nomark _)) (pw_or1 (pt_not (pt_tru (pe_call G__law_no_letter (hr.mono (by decide)) (by rfl) Y.g__law_no_letter Y.F__law_no_letter.kp Y.b__law_no_letter .nil pass0 (pa_cons (pv 6) pa_nil)) (by intro _; rfl)))))) (pss_one (ps_ret pe_bl)) pss_nil)
        (pss_cons (ps_set (i := 7) sc_law.nd rfl (Or.inl rfl) (pe_call G__law_spoilt (hr.mono (by decide)) (by rfl) Y.g__law_spoilt Y.F__law_spoilt.kp Y.b__law_spoilt .nil pass0 (pa_cons (pv 2) (pa_cons (pv 4) pa_nil))))
        (pss_one (ps_if (pt_not (pt_tru (pe_call G__law_same (hr.mono (by decide)) (by rfl) Y.g__law_same Y.F__law_same.kp Y.b__law_same .nil pass0 (pa_cons (pe_call G__law_told (hr.mono (by decide)) (by rfl) Y.g__law_told Y.F__law_told.kp Y.b__law_told .nil pass0 (pa_cons (pv 7) pa_nil)) (pa_cons (pe_call G__law_read (hr.mono (by decide)) (by rfl) Y.g__law_read Y.F__law_read.kp Y.b__law_read .nil pass0 (pa_cons (pv 7) pa_nil)) pa_nil))) (by intro _; rfl))) (pss_one (ps_ret pe_bl)) pss_nil))))))
      (pss_one (ps_if (pt_not (pt_tru (pe_call G__law_no_text (hr.mono (by decide)) (by rfl) Y.g__law_no_text Y.F__law_no_text.kp Y.b__law_no_text .nil pass0 (pa_cons (pe_ix ix_SEQ (pe_lst (pa_cons pe_non (pa_cons pe_int (pa_cons (pe_op op_ADD (pv 4) pe_str) (pa_cons (pe_lst (pa_cons (pv 4) pa_nil)) (pa_cons (pe_tup (pa_cons (pv 4) pa_nil)) (pa_cons pe_bl pa_nil))))))) (pe_call G__law_draw (hr.mono (by decide)) (by rfl) Y.g__law_draw Y.F__law_draw.kp Y.b__law_draw .nil pass0 (pa_cons (pv 2) (pa_cons pe_int pa_nil))) (fun _ _ => rfl)) pa_nil)) (by intro _; rfl))) (pss_one (ps_ret pe_bl)) pss_nil)))))))))
    (pss_one (ps_ret pe_bl)))
end
end My

set_option Elab.async false
set_option linter.all false
set_option maxRecDepth 100000
set_option maxHeartbeats 1000000
namespace My
open PySem PySem.Spec PyProof.Rows L2
local macro_rules | `(tactic| walk_at "len") => `(tactic| first | assumption | omega | decide | (simp only [List.length_append, List.length_take, List.length_drop, List.length_cons, List.length_nil, List.length_replicate]; omega))
local macro_rules | `(tactic| walk_at "side") => `(tactic| first | assumption | exact Nat.zero_le _ | decide | omega)
local macro_rules | `(tactic| walk_at "rd1") => `(tactic| first
  | with_reducible refine s_seq ?_
  | with_reducible refine x_gsub ?_
  | with_reducible refine s_asg ?_
  | ((with_reducible refine s_gn ?_); dsimp only [List.set])
  | ((with_reducible refine x_var (v := ?rdv) ?rdhv ?_); (case rdhv => rfl))
  | with_reducible refine x_c ?_
  | with_reducible refine x_op ?_
  | with_reducible refine x_cons ?_
  | with_reducible refine x_nil ?_
  | with_reducible refine x_cb ?_
  | with_reducible refine x_call ?_
  | with_reducible refine x_callS ?_
  | with_reducible refine x_revT ?_
  | with_reducible refine x_dget ?_
  | with_reducible refine x_din ?_
  | with_reducible refine x_dnotin ?_
  | with_reducible refine s_dput ?_
  | with_reducible refine x_dnew ?_
  | with_reducible refine s_try ?_
  | with_reducible refine s_raise ?_
  | with_reducible refine s_if ?_
  | with_reducible refine s_ret ?_
  | with_reducible refine s_retN ?_
  | with_reducible refine s_next ?_
  | with_reducible refine s_brk ?_
  | with_reducible refine s_cont ?_
  | with_reducible refine s_drop ?_
  | with_reducible refine s_par ?_
  | with_reducible refine s_par3 ?_
  | ((with_reducible refine s_p2 ?_); dsimp only [List.set])
  | ((with_reducible refine s_p3 ?_); dsimp only [List.set])
  | with_reducible refine f_r1 ?_
  | with_reducible refine f_r2 ?_
  | with_reducible refine f_l ?_
  | with_reducible refine f_t ?_
  | with_reducible refine f_s ?_
  | with_reducible refine c_r1 ?_
  | with_reducible refine c_r2 ?_
  | with_reducible refine c_l ?_
  | with_reducible refine c_t ?_
  | with_reducible refine c_s ?_
  | with_reducible refine x_tst ?_
  | with_reducible refine x_tru ?_
  | with_reducible refine x_truB ?_
  | with_reducible refine x_bl2 ?_
  | with_reducible refine x_int ?_
  | with_reducible refine x_str ?_
  | with_reducible refine x_not ?_
  | with_reducible refine x_and ?_
  | with_reducible refine x_or ?_
  | with_reducible refine x_andV ?_
  | with_reducible refine x_orV ?_
  | with_reducible refine x_notV ?_
  | with_reducible refine x_if ?_
  | with_reducible refine x_yes ?_
  | with_reducible refine x_un ?_
  | with_reducible refine x_tup ?_
  | with_reducible refine x_lst ?_
  | with_reducible refine x_callK ?_
  | with_reducible refine x_callK0 ?_
  | with_reducible refine x_bm ?_
  | with_reducible refine x_bm0 ?_
  | with_reducible refine x_tyS ?_
  | with_reducible refine x_sl ?_
  | with_reducible refine x_nopart ?_
  | with_reducible refine x_part ?_
  | with_reducible refine x_fmt0 ?_
  | with_reducible refine x_gc ?_
  | with_reducible refine x_gz ?_
  | with_reducible refine x_ckw ?_
  | with_reducible refine x_fmt ?_
  | with_reducible refine x_chain ?_
  | with_reducible refine a_ii ?_
  | ((with_reducible refine sl_to ?rda ?rdb ?_); (case rda => walk_at "len"); (case rdb => walk_at "len"))
  | ((with_reducible refine sl_from ?rda ?rdb ?_); (case rda => walk_at "len"); (case rdb => walk_at "len"))
  | ((with_reducible refine sl_mid ?rda ?rdb ?rdc ?_); (case rda => walk_at "len"); (case rdb => walk_at "len"); (case rdc => walk_at "len"))
  | ((with_reducible refine a_SS ?rda ?_); (case rda => walk_at "len"))
  | ((with_reducible refine ln_S ?rda ?_); (case rda => walk_at "len"))
  | with_reducible refine e_SS ?_
  | with_reducible refine ne_SS ?_
  | with_reducible refine s_ii ?_
  | ((with_reducible refine md_ii ?rdc ?_); (case rdc => first | decide | assumption | omega))
  | with_reducible refine n_i ?_
  | with_reducible refine e_ii ?_
  | with_reducible refine e_bb ?_
  | with_reducible refine ne_ii ?_
  | with_reducible refine ne_bb ?_
  | with_reducible refine lt_ii ?_
  | with_reducible refine lt_ss ?_
  | with_reducible refine le_ii ?_
  | with_reducible refine le_ss ?_
  | with_reducible refine gt_ii ?_
  | with_reducible refine gt_ss ?_
  | with_reducible refine ge_ii ?_
  | with_reducible refine e_ss ?_
  | with_reducible refine ne_ss ?_
  | with_reducible refine is_N ?_
  | with_reducible refine is_T ?_
  | with_reducible refine is_B ?_
  | with_reducible refine isn_N ?_
  | with_reducible refine isn_T ?_
  | with_reducible refine isn_B ?_
  | with_reducible refine in_s ?_
  | with_reducible refine nin_s ?_
  | with_reducible refine i_i ?_
  | with_reducible refine i_b ?_
  | with_reducible refine ab_i ?_
  | with_reducible refine mx_ii ?_
  | with_reducible refine mn_ii ?_
  | with_reducible refine ty_N ?_
  | with_reducible refine ty_B ?_
  | with_reducible refine ty_I ?_
  | with_reducible refine ty_S ?_
  | with_reducible refine ma_s ?_
  | with_reducible refine mp_s ?_
  | with_reducible refine mdg_s ?_
  | with_reducible refine mf_s ?_
  | with_reducible refine iteT ?_
  | with_reducible refine iteF ?_
  | with_reducible refine iteNt ?_
  | with_reducible refine iteNf ?_
  | with_reducible refine iteTd (by decide) ?_
  | with_reducible refine iteFd (by decide) ?_
  | with_reducible refine iteNd (by decide) ?_
  | with_reducible refine iteNdF (by decide) ?_
  | ((with_reducible refine iteFd ?rdn ?_); (case rdn => (intro rdz; cases rdz; done)))
  | ((with_reducible refine iteNdF ?rdn ?_); (case rdn => (intro rdz; cases rdz; done))))
local macro_rules | `(tactic| walk_at "rd") => `(tactic| (repeat walk_at "rd1"))
section
variable {P : Program} {w : World} {K : PySem.W.Frag} {mg : Str → Option Value} {base : Heap}
/-! texts, figures -/
def isTxD : PyData → Bool
  | .str z => isT z.cps.toList
  | _ => false
def sp_is_text (K : PySem.W.Frag) : Sp := fun vs H Q _ => ∃ (x : V) (d : PyData), vs = [x] ∧ Dp K H x d ∧ Q (.bl (isTxD d)) H
theorem ok_is_text (Y : Fx K mg) : FnOk P w K mg base CX0 1 Y.a_is_text Y.fd_is_text ["value"] (sp_is_text K) := by
  refine Y.F_is_text.ok sc_is_text (fun vs H Q E h => ?_) (fun cdv A outer s H vs Q E hr h => ?_)
  · obtain ⟨x, d, rfl, _⟩ := h
    rfl
  · obtain ⟨x, d, rfl, hx, q⟩ := h
    refine ⟨_, b_is_text Y hr, ?_⟩
    show t_is_text K _ [some x] H
    unfold t_is_text
    walk_at "rd"
    refine ty_D hx ?_
    cases hx with
    | str z =>
      obtain ⟨l, rfl⟩ : ∃ l, z = S l := ⟨_, S_eta z⟩
      have q' : Q (.bl (isT l)) H := q
      walk_at "rd"
      refine iteTd rfl ?_
      walk_at "rd"
      rw [← is_text_eq l] at q'
      refine ite2' (fun e => ?_) (fun e => ?_)
      · walk_at "rd"
        rw [e] at q'
        exact q'
      · rw [e] at q'
        exact q'
    | non =>
      walk_at "rd"
      exact q
    | bl b =>
      walk_at "rd"
      refine iteFd (show ¬ (("bool" : String) = "str") by decide) ?_
      exact q
    | int i =>
      walk_at "rd"
      refine iteFd (show ¬ (("int" : String) = "str") by decide) ?_
      exact q
    | lst h _ =>
      walk_at "rd"
      refine iteFd (show ¬ (("list" : String) = "str") by decide) ?_
      exact q
    | tup h _ =>
      walk_at "rd"
      refine iteFd (show ¬ (("tuple" : String) = "str") by decide) ?_
      exact q
def sp_number_at (K : PySem.W.Frag) : Sp := fun vs H Q _ => ∃ (l : List Nat) (a k : Nat), vs = [.str (S l), .int a, .int k] ∧ isT l = true ∧ l.length ≤ 300000 ∧ k ≤ 100 ∧ ∀ v, NumV (numAt l a k) v → Q v H
theorem ok_number_at (Y : Fx K mg) : FnOk P w K mg base CX0 1 Y.a_number_at Y.fd_number_at ["text", "at", "size"] (sp_number_at K) := by
  refine Y.F_number_at.ok sc_number_at (fun vs H Q E h => ?_) (fun cdv A outer s H vs Q E hr h => ?_)
  · obtain ⟨l, a, k, rfl, _⟩ := h
    rfl
  · obtain ⟨l, a, k, rfl, hT, hl, hk, q⟩ := h
    refine ⟨_, b_number_at Y hr, ?_⟩
    show t_number_at K _ [some (.str (S l)), some (.int a), some (.int k), none] H
    unfold t_number_at
    walk_at "rd"
    rw [show ((a : Int) + (k : Int)).toNat = a + k by omega, Int.toNat_natCast]
    generalize hw : (l.take (a + k)).drop a = wd
    have hwl : wd.length ≤ k := by
      rw [← hw, List.length_drop, List.length_take]
      omega
    have hwT : isT wd = true := by
      rw [← hw]
      exact isT_drop _ (isT_take _ hT)
    unfold numAt at q
    rw [hw] at q
    refine ite2' (fun e => ?_) (fun e => ?_)
    · have e1 : wd.length = k := by have := of_decide_eq_true e; omega
      walk_at "rd"
      rw [isdigit_eq hwT]
      refine ite2' (fun e => ?_) (fun e => ?_)
      · rw [Bool.and_eq_true] at e
        have e2 : wd ≠ [] := of_decide_eq_true e.1
        have e3 : k ≠ 0 := by
          intro z
          exact e2 (List.eq_nil_of_length_eq_zero (by omega))
        walk_at "rd"
        refine i_s (SX.int_S e.2 e2 (by omega)) (by rw [S_len]; omega) ?_
        rw [if_pos ⟨e1, e3, e.2⟩] at q
        exact q _ (.some _)
      · walk_at "rd"
        rw [if_neg] at q
        · exact q _ .none
        · intro z
          have e2 : wd ≠ [] := by
            intro y
            rw [y] at e1
            exact z.2.1 e1.symm
          rw [decide_eq_true e2, Bool.true_and, z.2.2] at e
          cases e
    · walk_at "rd"
      rw [if_neg] at q
      · exact q _ .none
      · intro z
        have := of_decide_eq_false e
        omega

/-! the changes of a text -/
abbrev Ch := List Nat × Option (List Nat)
def vlD : Option (List Nat) → PyData
  | none => .none
  | some v => .str (S v)
def vlV : Option (List Nat) → V
  | none => .non
  | some v => .str (S v)
theorem dp_vl (H : Hp) (o : Option (List Nat)) : Dp K H (vlV o) (vlD o) := by
  cases o with
  | none => exact .non
  | some v => exact .str _
def chD (c : Ch) : PyData := .tuple [.str (S c.1), vlD c.2]
def chsD (cs : List Ch) : PyData := .tuple (cs.map chD)
def cutL (l : List Nat) (a b : Nat) : List Nat := (l.take b).drop a
def partR (l : List Nat) (a : Nat) : Option (List Nat × Nat) := match numAt l a 4 with
  | none => none
  | some n => if l.length < a + 4 + n then none else some (cutL l (a + 4) (a + 4 + n), a + 4 + n)
def chgR (l : List Nat) (a : Nat) : Option (Ch × Nat) := match partR l (a + 1) with
  | none => none
  | some r => if l[a]? = some 45 then some ((r.1, none), r.2) else match partR l r.2 with
    | none => none
    | some r2 => if l[a]? = some 43 then some ((r.1, some r2.1), r2.2) else none
def chsR (l : List Nat) : Nat → Nat → Option (List Ch)
  | 0, _ => some []
  | n + 1, a => if a < l.length then match chgR l a with
      | none => none
      | some r => (chsR l n r.2).map (r.1 :: ·)
    else some []
theorem chsR_end {l : List Nat} {n a : Nat} (h : ¬ a < l.length) : chsR l n a = some [] := by
  cases n with
  | zero => rfl
  | succ n => rw [chsR, if_neg h]
theorem partR_lt {l : List Nat} {a : Nat} {r : List Nat × Nat} (h : partR l a = some r) : a + 4 ≤ r.2 ∧ r.2 ≤ l.length := by
  unfold partR at h
  cases hn : numAt l a 4 with
  | none => rw [hn] at h; cases h
  | some n =>
    rw [hn] at h
    have h' : (if l.length < a + 4 + n then none else some (cutL l (a + 4) (a + 4 + n), a + 4 + n)) = some r := h
    by_cases hl : l.length < a + 4 + n
    · rw [if_pos hl] at h'; cases h'
    · rw [if_neg hl] at h'; cases h'; exact ⟨by show a + 4 ≤ a + 4 + n; omega, by show a + 4 + n ≤ l.length; omega⟩
theorem chgR_lt {l : List Nat} {a : Nat} {r : Ch × Nat} (h : chgR l a = some r) : a + 5 ≤ r.2 ∧ r.2 ≤ l.length := by
  unfold chgR at h
  cases h1 : partR l (a + 1) with
  | none => rw [h1] at h; cases h
  | some r1 =>
    have b1 := partR_lt h1
    rw [h1] at h
    have h' : (if l[a]? = some 45 then some ((r1.1, none), r1.2) else match partR l r1.2 with
      | none => none
      | some r2 => if l[a]? = some 43 then some ((r1.1, some r2.1), r2.2) else none) = some r := h
    by_cases h2 : l[a]? = some 45
    · rw [if_pos h2] at h'; cases h'; exact ⟨by show a + 5 ≤ r1.2; omega, b1.2⟩
    · rw [if_neg h2] at h'
      cases h3 : partR l r1.2 with
      | none => rw [h3] at h'; cases h'
      | some r2 =>
        have b2 := partR_lt h3
        rw [h3] at h'
        have h4 : (if l[a]? = some 43 then some ((r1.1, some r2.1), r2.2) else none) = some r := h'
        by_cases h5 : l[a]? = some 43
        · rw [if_pos h5] at h4; cases h4; exact ⟨by show a + 5 ≤ r2.2; omega, b2.2⟩
        · rw [if_neg h5] at h4; cases h4
/-! part_from, change_from, changes_told -/
def ptV : Option (List Nat × Nat) → Nat → List V
  | none, a => [.non, .int a]
  | some r, _ => [.str (S r.1), .int r.2]
def sp_part_from (K : PySem.W.Frag) : Sp := fun vs H Q _ => ∃ (l : List Nat) (a : Nat), vs = [.str (S l), .int a] ∧ isT l = true ∧ l.length ≤ 300000 ∧ ∀ p H', Same H H' → H' p = some (.tup (ptV (partR l a) a)) → Q (.ref p) H'
theorem ok_part_from (Y : Fx K mg) : FnOk P w K mg base CX0 2 Y.a_part_from Y.fd_part_from ["text", "at"] (sp_part_from K) := by
  refine Y.F_part_from.ok sc_part_from (fun vs H Q E h => ?_) (fun cdv A outer s H vs Q E hr h => ?_)
  · obtain ⟨l, a, rfl, _⟩ := h
    rfl
  · obtain ⟨l, a, rfl, hT, hl, q⟩ := h
    refine ⟨_, b_part_from Y (ok_number_at Y) hr, ?_⟩
    show t_part_from K _ _ [some (.str (S l)), some (.int a), none, none] H
    unfold t_part_from
    unfold partR at q
    walk_at "rd"
    refine ⟨l, a, 4, rfl, hT, hl, by decide, fun v hv => ?_⟩
    walk_at "rd"
    generalize numAt l a 4 = o at hv q
    cases hv with
    | none =>
      walk_at "rd"
      refine ⟨by show 2 ≤ sizeLine; decide, fun p hp => ?_⟩
      exact q p _ (same_upd hp) upd_same
    | some n =>
      have q' : ∀ p H', Same H H' → H' p = some (.tup (ptV (if l.length < a + 4 + n then none else some (cutL l (a + 4) (a + 4 + n), a + 4 + n)) a)) → Q (.ref p) H' := q
      walk_at "rd"
      refine ite2' (fun e => ?_) (fun e => ?_)
      · have := of_decide_eq_true e
        rw [if_pos (by omega)] at q'
        walk_at "rd"
        refine ⟨by show 2 ≤ sizeLine; decide, fun p hp => ?_⟩
        exact q' p _ (same_upd hp) upd_same
      · have := of_decide_eq_false e
        rw [if_neg (by omega)] at q'
        walk_at "rd"
        rw [show ((a : Int) + 4).toNat = a + 4 by omega, show ((a : Int) + 4 + n).toNat = a + 4 + n by omega, show (a : Int) + 4 + (n : Int) = ((a + 4 + n : Nat) : Int) by omega]
        refine ⟨by show 2 ≤ sizeLine; decide, fun p hp => ?_⟩
        exact q' p _ (same_upd hp) upd_same
def CgV (H : Hp) : Option (Ch × Nat) → V → Prop
  | none, v => v = .non
  | some r, v => ∃ p c, v = .ref p ∧ H p = some (.tup [.ref c, .int r.2]) ∧ H c = some (.tup [.str (S r.1.1), vlV r.1.2])
def sp_change_from (K : PySem.W.Frag) : Sp := fun vs H Q _ => ∃ (l : List Nat) (a : Nat), vs = [.str (S l), .int a] ∧ isT l = true ∧ l.length ≤ 300000 ∧ a < l.length ∧ ∀ v H', Same H H' → CgV H' (chgR l a) v → Q v H'
theorem sg_at {l : List Nat} {a c : Nat} (h : l[a]? = some c) (k : Nat) : decide ([c] = [k]) = decide (l[a]? = some k) := by
  rw [h]
  simp
theorem ok_change_from (Y : Fx K mg) : FnOk P w K mg base CX0 3 Y.a_change_from Y.fd_change_from ["text", "at"] (sp_change_from K) := by
  refine Y.F_change_from.ok sc_change_from (fun vs H Q E h => ?_) (fun cdv A outer s H vs Q E hr h => ?_)
  · obtain ⟨l, a, rfl, _⟩ := h
    rfl
  · obtain ⟨l, a, rfl, hT, hl, ha, q⟩ := h
    refine ⟨_, b_change_from Y (ok_part_from Y) hr, ?_⟩
    show t_change_from K _ _ [some (.str (S l)), some (.int a), none, none, none] H
    unfold t_change_from
    rw [show ("-" : Str) = S [45] from rfl, show ("+" : Str) = S [43] from rfl]
    unfold chgR at q
    walk_at "rd"
    rw [show (a : Int) + 1 = ((a + 1 : Nat) : Int) by omega]
    refine ⟨l, a + 1, rfl, hT, hl, fun p H1 hS1 hp => ?_⟩
    cases h1 : partR l (a + 1) with
    | none =>
      rw [h1] at q hp
      refine gt_T (tup_of hp) rfl ?_
      refine x_gc ?_
      refine s_gn ?_
      refine x_gc ?_
      refine s_gn ?_
      refine x_gz ?_
      show tSeq _ _ _ [some (.str (S l)), some (.int a), some .non, some (.int ((a + 1 : Nat) : Int)), none] H1
      walk_at "rd"
      exact q .non H1 hS1 rfl
    | some r1 =>
      have b1 := partR_lt h1
      rw [h1] at q hp
      have q' : ∀ v H', Same H H' → CgV H' (if l[a]? = some 45 then some ((r1.1, none), r1.2) else match partR l r1.2 with
        | none => none
        | some r2 => if l[a]? = some 43 then some ((r1.1, some r2.1), r2.2) else none) v → Q v H' := q
      refine gt_T (tup_of hp) rfl ?_
      refine x_gc ?_
      refine s_gn ?_
      refine x_gc ?_
      refine s_gn ?_
      refine x_gz ?_
      show tSeq _ _ _ [some (.str (S l)), some (.int a), some (.str (S r1.1)), some (.int r1.2), none] H1
      walk_at "rd"
      refine ix_SS (by omega) (by omega) (by omega) fun c hc => ?_
      rw [Int.toNat_natCast] at hc
      walk_at "rd"
      rw [sg_at hc]
      refine ite2' (fun e => ?_) (fun e => ?_)
      · have e1 := of_decide_eq_true e
        rw [if_pos e1] at q'
        walk_at "rd"
        refine ⟨by show 2 ≤ sizeLine; decide, fun t ht => ?_⟩
        have hSt := same_upd ht (o := .tup [V.str (S r1.1), .non])
        walk_at "rd"
        refine ⟨by show 2 ≤ sizeLine; decide, fun t2 ht2 => ?_⟩
        have hSt2 := same_upd ht2 (o := .tup [V.ref t, .int r1.2])
        exact q' (.ref t2) _ ((hS1.trans hSt).trans hSt2) ⟨t2, t, rfl, upd_same, hSt2 _ _ upd_same⟩
      · have e1 := of_decide_eq_false e
        rw [if_neg e1] at q'
        walk_at "rd"
        refine ⟨l, r1.2, rfl, hT, hl, fun p2 H2 hS2 hp2 => ?_⟩
        cases h2 : partR l r1.2 with
        | none =>
          rw [h2] at q' hp2
          refine gt_T (tup_of hp2) rfl ?_
          refine x_gc ?_
          refine s_gn ?_
          refine x_gc ?_
          refine s_gn ?_
          refine x_gz ?_
          show tSeq _ _ _ [some (.str (S l)), some (.int a), some (.str (S r1.1)), some (.int r1.2), some .non] H2
          walk_at "rd"
          refine ix_SS (by omega) (by omega) (by omega) fun c hc => ?_
          walk_at "rd"
          refine ite2' (fun e => ?_) (fun e => ?_)
          · walk_at "rd"
            exact q' .non H2 (hS1.trans hS2) rfl
          · walk_at "rd"
            exact q' .non H2 (hS1.trans hS2) rfl
        | some r2 =>
          rw [h2] at q' hp2
          have q2 : ∀ v H', Same H H' → CgV H' (if l[a]? = some 43 then some ((r1.1, some r2.1), r2.2) else none) v → Q v H' := q'
          refine gt_T (tup_of hp2) rfl ?_
          refine x_gc ?_
          refine s_gn ?_
          refine x_gc ?_
          refine s_gn ?_
          refine x_gz ?_
          show tSeq _ _ _ [some (.str (S l)), some (.int a), some (.str (S r1.1)), some (.int r2.2), some (.str (S r2.1))] H2
          walk_at "rd"
          refine ix_SS (by omega) (by omega) (by omega) fun c hc => ?_
          rw [Int.toNat_natCast] at hc
          walk_at "rd"
          rw [sg_at hc]
          refine ite2' (fun e => ?_) (fun e => ?_)
          · rw [Bool.not_eq_true'] at e
            have e3 := of_decide_eq_false e
            rw [if_neg e3] at q2
            walk_at "rd"
            exact q2 .non H2 (hS1.trans hS2) rfl
          · rw [Bool.not_eq_false'] at e
            have e3 := of_decide_eq_true e
            rw [if_pos e3] at q2
            walk_at "rd"
            refine ⟨by show 2 ≤ sizeLine; decide, fun t ht => ?_⟩
            have hSt := same_upd ht (o := .tup [V.str (S r1.1), .str (S r2.1)])
            walk_at "rd"
            refine ⟨by show 2 ≤ sizeLine; decide, fun t2 ht2 => ?_⟩
            have hSt2 := same_upd ht2 (o := .tup [V.ref t, .int r2.2])
            exact q2 (.ref t2) _ (((hS1.trans hS2).trans hSt).trans hSt2) ⟨t2, t, rfl, upd_same, hSt2 _ _ upd_same⟩
/-- a list's changes, object by object -/
def ChV (H : Hp) (us : List V) (cs : List Ch) : Prop := us.length = cs.length ∧ ∀ (i : Nat) (c : Ch), cs[i]? = some c → ∃ t, us[i]? = some (.ref t) ∧ H t = some (.tup [.str (S c.1), vlV c.2])
theorem ChV.nil {H : Hp} : ChV H [] [] := ⟨rfl, fun i c h => by cases h⟩
theorem ChV.mono {H H' : Hp} {us : List V} {cs : List Ch} (e : Same H H') (h : ChV H us cs) : ChV H' us cs := ⟨h.1, fun i o hi => by
  obtain ⟨v, a, b⟩ := h.2 i o hi
  exact ⟨v, a, e _ _ b⟩⟩
theorem ChV.mut {H : Hp} {us xs : List V} {cs : List Ch} {D : Addr} {u : HO} (hD : H D = some (.lst xs)) (h : ChV H us cs) : ChV (upd H D u) us cs := ⟨h.1, fun i o hi => by
  obtain ⟨v, a, b⟩ := h.2 i o hi
  refine ⟨v, a, ?_⟩
  rw [upd_ne]
  · exact b
  · rintro rfl
    rw [hD] at b
    cases b⟩
theorem ChV.snoc {H : Hp} {us : List V} {cs : List Ch} {t : Addr} {c : Ch} (h : ChV H us cs) (hv : H t = some (.tup [.str (S c.1), vlV c.2])) : ChV H (us ++ [.ref t]) (cs ++ [c]) := by
  refine ⟨by rw [List.length_append, List.length_append, h.1]; rfl, fun i o' hi => ?_⟩
  by_cases hlt : i < cs.length
  · rw [List.getElem?_append_left hlt] at hi
    obtain ⟨v', a, b⟩ := h.2 i o' hi
    exact ⟨v', by rw [List.getElem?_append_left (by rw [h.1]; exact hlt)]; exact a, b⟩
  · rw [List.getElem?_append_right (by omega)] at hi
    have hi2 : i - cs.length < 1 := (List.getElem?_eq_some_iff.mp hi).1
    have hi3 : i = cs.length := by omega
    subst hi3
    rw [Nat.sub_self] at hi
    cases hi
    exact ⟨t, by rw [List.getElem?_append_right (by rw [h.1]; exact Nat.le_refl _), h.1, Nat.sub_self]; rfl, hv⟩
theorem ChV.dp {H : Hp} : ∀ {us : List V} {cs : List Ch}, ChV H us cs → DpAll K H us (cs.map chD)
  | [], [], _ => .nil
  | [], e :: es, h => by have := h.1; cases this
  | u :: us, [], h => by have := h.1; cases this
  | u :: us, e :: es, h => by
    obtain ⟨t, a, b⟩ := h.2 0 e rfl
    cases a
    exact .cons (.tup (tup_of b) (.cons (.str _) (.cons (dp_vl _ _) .nil))) (ChV.dp (us := us) (cs := es) ⟨Nat.succ.inj h.1, fun i o hi => h.2 (i + 1) o hi⟩)
theorem map_pre {α : Type} {o : Option (List α)} {es : List α} {e : α} : (o.map (e :: ·)).map (es ++ ·) = o.map ((es ++ [e]) ++ ·) := by
  cases o with
  | none => rfl
  | some r => simp
/-- None, or the changes as a tuple -/
def CsV (H : Hp) : Option (List Ch) → V → Prop
  | none, v => v = .non
  | some cs, v => ∃ p us, v = .ref p ∧ H p = some (.tup us) ∧ ChV H us cs
def sp_changes_told (K : PySem.W.Frag) : Sp := fun vs H Q _ => ∃ (l : List Nat) (a : Nat), vs = [.str (S l), .int a] ∧ isT l = true ∧ l.length ≤ 300000 ∧ ∀ v H', Same H H' → CsV H' (chsR l l.length a) v → Q v H'
theorem ok_changes_told (Y : Fx K mg) : FnOk P w K mg base CX0 4 Y.a_changes_told Y.fd_changes_told ["text", "at"] (sp_changes_told K) := by
  refine Y.F_changes_told.ok sc_changes_told (fun vs H Q E h => ?_) (fun cdv A outer s H vs Q E hr h => ?_)
  · obtain ⟨l, a, rfl, _⟩ := h
    rfl
  · obtain ⟨l, a0, rfl, hT, hl, q⟩ := h
    refine ⟨_, b_changes_told Y (ok_change_from Y) hr, ?_⟩
    show t_changes_told K _ _ [some (.str (S l)), some (.int a0), none, none, none] H
    unfold t_changes_told
    walk_at "rd"
    refine ⟨Nat.zero_le _, fun D hD => ?_⟩
    walk_at "rd"
    refine w_while (fun k σ H' => ∃ (a n : Nat) (us : List V) (cs : List Ch) (y3 y4 : Option V), σ = [some (.str (S l)), some (.int a), some (.ref D), y3, y4] ∧ Same H H' ∧ H' D = some (.lst us) ∧ ChV H' us cs ∧ cs.length ≤ a ∧ chsR l l.length a0 = (chsR l n a).map (cs ++ ·) ∧ l.length - a ≤ n ∧ k = l.length - a) _
      ⟨a0, l.length, [], [], _, _, rfl, same_upd hD, upd_same, ChV.nil, Nat.zero_le _, (by cases chsR l l.length a0 <;> rfl), by omega, rfl⟩ (fun k σ H1 hW => ?_)
    obtain ⟨a, n, us, cs, y3, y4, rfl, hS, hH, hE, hel, hR, hn, rfl⟩ := hW
    walk_at "rd"
    refine ite2' (fun e => ?_) (fun e => ?_)
    · have hlt : a < l.length := by have := of_decide_eq_true e; omega
      obtain ⟨n', rfl⟩ : ∃ n', n = n' + 1 := ⟨n - 1, by omega⟩
      rw [chsR, if_pos hlt] at hR
      refine ⟨fun σ' H' => ∃ k', k' < l.length - a ∧ ∃ (a n : Nat) (us : List V) (cs : List Ch) (y3 y4 : Option V), σ' = [some (.str (S l)), some (.int a), some (.ref D), y3, y4] ∧ Same H H' ∧ H' D = some (.lst us) ∧ ChV H' us cs ∧ cs.length ≤ a ∧ chsR l l.length a0 = (chsR l n a).map (cs ++ ·) ∧ l.length - a ≤ n ∧ k' = l.length - a, fun _ _ h => h, ?_⟩
      walk_at "rd"
      refine ⟨l, a, rfl, hT, hl, hlt, fun v H2 hS2 hv => ?_⟩
      walk_at "rd"
      cases hc : chgR l a with
      | none =>
        rw [hc] at hR hv
        cases hv
        have hR' : chsR l l.length a0 = none := hR
        rw [hR'] at q
        rw [decide_eq_true rfl]
        walk_at "rd"
        exact q _ _ (hS.trans hS2) rfl
      | some r =>
        have hb := chgR_lt hc
        rw [hc] at hR hv
        obtain ⟨p, t, rfl, hp, ht⟩ := hv
        have hR' : chsR l l.length a0 = ((chsR l n' r.2).map (r.1 :: ·)).map (cs ++ ·) := hR
        rw [map_pre] at hR'
        rw [decide_eq_false (show ¬ V.ref p = .non from fun z => by cases z)]
        walk_at "rd"
        refine gt_T (tup_of hp) rfl ?_
        refine x_gc ?_
        refine s_gn ?_
        refine x_gc ?_
        refine s_gn ?_
        refine x_gz ?_
        show tDrop _ _ [some (.str (S l)), some (.int r.2), some (.ref D), some (.ref p), some (.ref t)] H2
        have hH2 := hS2 _ _ hH
        walk_at "rd"
        refine x_tyL (lst_of hH2) ?_
        walk_at "rd"
        refine ap_L hH2 (by rw [hE.1]; omega) ?_
        refine ⟨l.length - r.2, by omega, r.2, n', us ++ [.ref t], cs ++ [r.1], _, _, rfl, same_mut (hS.trans hS2) hD, upd_same, ((hE.mono hS2).snoc ht).mut hH2, ?_, hR', by omega, rfl⟩
        rw [List.length_append]
        show cs.length + 1 ≤ r.2
        omega
    · have hge : ¬ a < l.length := by have := of_decide_eq_false e; omega
      rw [chsR_end hge] at hR
      have hR' : chsR l l.length a0 = some cs := by
        rw [hR]
        simp
      rw [hR'] at q
      walk_at "rd"
      refine tu_L (lst_of hH) fun p hp => ?_
      have hSp := same_upd hp (o := .tup us)
      exact q _ _ (hS.trans hSp) ⟨p, us, rfl, upd_same, hE.mono hSp⟩
end
end My

set_option Elab.async false
set_option linter.all false
set_option maxRecDepth 100000
set_option maxHeartbeats 1000000
namespace My
open PySem PySem.Spec PyProof.Rows L2
local macro_rules | `(tactic| walk_at "len") => `(tactic| first | assumption | omega | decide | (simp only [List.length_append, List.length_take, List.length_drop, List.length_cons, List.length_nil, List.length_replicate]; omega))
local macro_rules | `(tactic| walk_at "side") => `(tactic| first | assumption | exact Nat.zero_le _ | decide | omega)
local macro_rules | `(tactic| walk_at "rd1") => `(tactic| first
  | with_reducible refine s_seq ?_
  | with_reducible refine x_gsub ?_
  | with_reducible refine s_asg ?_
  | ((with_reducible refine s_gn ?_); dsimp only [List.set])
  | ((with_reducible refine x_var (v := ?rdv) ?rdhv ?_); (case rdhv => rfl))
  | with_reducible refine x_c ?_
  | with_reducible refine x_op ?_
  | with_reducible refine x_cons ?_
  | with_reducible refine x_nil ?_
  | with_reducible refine x_cb ?_
  | with_reducible refine x_call ?_
  | with_reducible refine x_callS ?_
  | with_reducible refine x_revT ?_
  | with_reducible refine x_dget ?_
  | with_reducible refine x_din ?_
  | with_reducible refine x_dnotin ?_
  | with_reducible refine s_dput ?_
  | with_reducible refine x_dnew ?_
  | with_reducible refine s_try ?_
  | with_reducible refine s_raise ?_
  | with_reducible refine s_if ?_
  | with_reducible refine s_ret ?_
  | with_reducible refine s_retN ?_
  | with_reducible refine s_next ?_
  | with_reducible refine s_brk ?_
  | with_reducible refine s_cont ?_
  | with_reducible refine s_drop ?_
  | with_reducible refine s_par ?_
  | with_reducible refine s_par3 ?_
  | ((with_reducible refine s_p2 ?_); dsimp only [List.set])
  | ((with_reducible refine s_p3 ?_); dsimp only [List.set])
  | with_reducible refine f_r1 ?_
  | with_reducible refine f_r2 ?_
  | with_reducible refine f_l ?_
  | with_reducible refine f_t ?_
  | with_reducible refine f_s ?_
  | with_reducible refine c_r1 ?_
  | with_reducible refine c_r2 ?_
  | with_reducible refine c_l ?_
  | with_reducible refine c_t ?_
  | with_reducible refine c_s ?_
  | with_reducible refine x_tst ?_
  | with_reducible refine x_tru ?_
  | with_reducible refine x_truB ?_
  | with_reducible refine x_bl2 ?_
  | with_reducible refine x_int ?_
  | with_reducible refine x_str ?_
  | with_reducible refine x_not ?_
  | with_reducible refine x_and ?_
  | with_reducible refine x_or ?_
  | with_reducible refine x_andV ?_
  | with_reducible refine x_orV ?_
  | with_reducible refine x_notV ?_
  | with_reducible refine x_if ?_
  | with_reducible refine x_yes ?_
  | with_reducible refine x_un ?_
  | with_reducible refine x_tup ?_
  | with_reducible refine x_lst ?_
  | with_reducible refine x_callK ?_
  | with_reducible refine x_callK0 ?_
  | with_reducible refine x_bm ?_
  | with_reducible refine x_bm0 ?_
  | with_reducible refine x_tyS ?_
  | with_reducible refine x_sl ?_
  | with_reducible refine x_nopart ?_
  | with_reducible refine x_part ?_
  | with_reducible refine x_fmt0 ?_
  | with_reducible refine x_gc ?_
  | with_reducible refine x_gz ?_
  | with_reducible refine x_ckw ?_
  | with_reducible refine x_fmt ?_
  | with_reducible refine x_chain ?_
  | with_reducible refine a_ii ?_
  | ((with_reducible refine sl_to ?rda ?rdb ?_); (case rda => walk_at "len"); (case rdb => walk_at "len"))
  | ((with_reducible refine sl_from ?rda ?rdb ?_); (case rda => walk_at "len"); (case rdb => walk_at "len"))
  | ((with_reducible refine sl_mid ?rda ?rdb ?rdc ?_); (case rda => walk_at "len"); (case rdb => walk_at "len"); (case rdc => walk_at "len"))
  | ((with_reducible refine a_SS ?rda ?_); (case rda => walk_at "len"))
  | ((with_reducible refine ln_S ?rda ?_); (case rda => walk_at "len"))
  | with_reducible refine e_SS ?_
  | with_reducible refine ne_SS ?_
  | with_reducible refine s_ii ?_
  | ((with_reducible refine md_ii ?rdc ?_); (case rdc => first | decide | assumption | omega))
  | with_reducible refine n_i ?_
  | with_reducible refine e_ii ?_
  | with_reducible refine e_bb ?_
  | with_reducible refine ne_ii ?_
  | with_reducible refine ne_bb ?_
  | with_reducible refine lt_ii ?_
  | with_reducible refine lt_ss ?_
  | with_reducible refine le_ii ?_
  | with_reducible refine le_ss ?_
  | with_reducible refine gt_ii ?_
  | with_reducible refine gt_ss ?_
  | with_reducible refine ge_ii ?_
  | with_reducible refine e_ss ?_
  | with_reducible refine ne_ss ?_
  | with_reducible refine is_N ?_
  | with_reducible refine is_T ?_
  | with_reducible refine is_B ?_
  | with_reducible refine isn_N ?_
  | with_reducible refine isn_T ?_
  | with_reducible refine isn_B ?_
  | with_reducible refine in_s ?_
  | with_reducible refine nin_s ?_
  | with_reducible refine i_i ?_
  | with_reducible refine i_b ?_
  | with_reducible refine ab_i ?_
  | with_reducible refine mx_ii ?_
  | with_reducible refine mn_ii ?_
  | with_reducible refine ty_N ?_
  | with_reducible refine ty_B ?_
  | with_reducible refine ty_I ?_
  | with_reducible refine ty_S ?_
  | with_reducible refine ma_s ?_
  | with_reducible refine mp_s ?_
  | with_reducible refine mdg_s ?_
  | with_reducible refine mf_s ?_
  | with_reducible refine iteT ?_
  | with_reducible refine iteF ?_
  | with_reducible refine iteNt ?_
  | with_reducible refine iteNf ?_
  | with_reducible refine iteTd (by decide) ?_
  | with_reducible refine iteFd (by decide) ?_
  | with_reducible refine iteNd (by decide) ?_
  | with_reducible refine iteNdF (by decide) ?_
  | ((with_reducible refine iteFd ?rdn ?_); (case rdn => (intro rdz; cases rdz; done)))
  | ((with_reducible refine iteNdF ?rdn ?_); (case rdn => (intro rdz; cases rdz; done))))
local macro_rules | `(tactic| walk_at "rd") => `(tactic| (repeat walk_at "rd1"))
section
variable {P : Program} {w : World} {K : PySem.W.Frag} {mg : Str → Option Value} {base : Heap}
def isB (c : Bool) : PyData → Bool | .bool b => decide (b = c) | _ => false
theorem bl_d {H : Hp} {x : V} {d : PyData} (c : Bool) (h : Dp K H x d) : decide (x = .bl c) = isB c d := by
  cases h with
  | bl b =>
    show decide (V.bl b = V.bl c) = decide (b = c)
    cases b <;> cases c <;> rfl
  | _ => rfl
def spS (F : PyData → Prop) (K : PySem.W.Frag) : Sp := fun vs H Q _ => ∃ (x y : V) (d : PyData), vs = [x, y] ∧ Dp K H x d ∧ Dp K H y d ∧ F d ∧ ∀ H', Same H H' → Q (.bl true) H'
theorem same_step (Y : Fx K mg) {n : Nat} (F : PyData → Prop) (G : FnOk P w K mg base CX0 n Y.a__law_same Y.fd__law_same ["_law_found", "_law_due"] (spS F K)) :
    FnOk P w K mg base CX0 (n + 1) Y.a__law_same Y.fd__law_same ["_law_found", "_law_due"] (spS (Up F) K) := by
  refine Y.F__law_same.ok sc__law_same (fun vs H Q E h => ?_) (fun cdv A outer s H vs Q E hr h => ?_)
  · obtain ⟨x, y, d, rfl, _⟩ := h
    rfl
  · obtain ⟨x, y, d, rfl, hx, hy, hF, q⟩ := h
    refine ⟨_, b__law_same Y G (Nat.zero_le _) hr, ?_⟩
    show t__law_same K _ _ [some x, some y, none] H
    unfold t__law_same
    have X : (isTu d = true ∨ isLi d = true) → ∀ N : L2.St → Hp → Prop, (tSeq (tIfS (tOr (tTest (tOp (rNE K) (tCB (rISI K) (tCons (tVar 0) (tCons (tC (.ty "tuple")) tNil))) (tCB (rISI K) (tCons (tVar 1) (tCons (tC (.ty "tuple")) tNil))))) (tTest (tOp (rNE K) (tCB (rISI K) (tCons (tVar 0) (tCons (tC (.ty "list")) tNil))) (tCB (rISI K) (tCons (tVar 1) (tCons (tC (.ty "list")) tNil)))))) (tRet (tC (.bl false))) tNext)
      (tRet (tAndV (tOp (rEQ K) (tCB (rLEN K) (tCons (tVar 0) tNil)) (tCB (rLEN K) (tCons (tVar 1) tNil))) (tOp (rEQ K) (tLc (iRng1 (tCons (tCB (rLEN K) (tCons (tVar 1) tNil)) tNil)) (gName 2) (tNot (tTru1 K (tCall (spS F K) [] E0 (tCons (tOp (rIX K) (tVar 0) (tVar 2)) (tCons (tOp (rIX K) (tVar 1) (tVar 2)) tNil))))) (tVar 2) [2]) (tLst tNil))))) { nx := N, rt := Q } [some x, some y, none] H := by
      intro hd N
      have seq : ∀ (ds : List PyData) (px py : Addr) (vx vy : List V), ds.length ≤ 100000 → (∀ e ∈ ds, F e) → SqX K H px vx → SqX K H py vy → DpAll K H vx ds → DpAll K H vy ds → x = .ref px → y = .ref py →
          tRet (tAndV (tOp (rEQ K) (tCB (rLEN K) (tCons (tVar 0) tNil)) (tCB (rLEN K) (tCons (tVar 1) tNil))) (tOp (rEQ K) (tLc (iRng1 (tCons (tCB (rLEN K) (tCons (tVar 1) tNil)) tNil)) (gName 2) (tNot (tTru1 K (tCall (spS F K) [] E0 (tCons (tOp (rIX K) (tVar 0) (tVar 2)) (tCons (tOp (rIX K) (tVar 1) (tVar 2)) tNil))))) (tVar 2) [2]) (tLst tNil)))
            { nx := N, rt := Q } [some x, some y, none] H := by
        rintro ds px py vx vy hl hFe hsx hsy hax hay rfl rfl
        have lx := dpAll_len hax
        have ly := dpAll_len hay
        walk_at "rd"
        refine ln_X hsx ?_
        walk_at "rd"
        refine ln_X hsy ?_
        rw [lx, ly]
        walk_at "rd"
        refine iteTd rfl ?_
        walk_at "rd"
        refine ln_X hsy ?_
        walk_at "rd"
        rw [ly]
        refine lcR1_mk (by omega) (by omega) (fun D i H' => Same H H' ∧ H' D = some (.lst [])) (fun D hD => ⟨same_upd hD, upd_same⟩) (fun D i H' hD hi hp => ?_) (fun D H' hD hp => ?_)
        · obtain ⟨hs, hd⟩ := hp
          rw [Int.toNat_natCast] at hi
          obtain ⟨v1, e1, d1⟩ := dpAll_get hax hi
          obtain ⟨v2, e2, d2⟩ := dpAll_get hay hi
          refine ⟨rfl, ?_⟩
          walk_at "rd"
          refine ix_X (hsx.mono hs) (atI_nat e1) ?_
          walk_at "rd"
          refine ix_X (hsy.mono hs) (atI_nat e2) ?_
          walk_at "rd"
          refine ⟨v1, v2, ds[i], rfl, dp_mono hs _ _ d1, dp_mono hs _ _ d2, hFe _ (List.getElem_mem hi), fun H4 hS4 => ?_⟩
          walk_at "rd"
          exact ⟨hs.trans hS4, hS4 _ _ hd⟩
        · obtain ⟨hs, hd⟩ := hp
          walk_at "rd"
          refine ⟨Nat.zero_le _, fun p2 hp2 => ?_⟩
          refine e_d (.lst (lst_of (same_upd hp2 _ _ hd)) .nil) (.lst (lst_of upd_same) .nil) (by decide) (by decide) ?_
          exact q _ (same_new hs hp2)
      walk_at "rd"
      refine isi_d hx (kit_tu hx) ?_
      walk_at "rd"
      refine isi_d hy (kit_tu hy) ?_
      walk_at "rd"
      rw [decide_eq_true (show isTu d = isTu d from rfl)]
      walk_at "rd"
      refine isi_d hx (kit_li hx) ?_
      walk_at "rd"
      refine isi_d hy (kit_li hy) ?_
      walk_at "rd"
      rw [decide_eq_true (show isLi d = isLi d from rfl)]
      refine iteNt ?_
      refine s_next ?_
      cases hx with
      | lst hs ha =>
        cases hy with
        | lst hs' ha' => exact seq _ _ _ _ _ hF.1 hF.2 (.inl hs) (.inl hs') ha ha' rfl rfl
      | tup hs ha =>
        cases hy with
        | tup hs' ha' => exact seq _ _ _ _ _ hF.1 hF.2 (.inr hs) (.inr hs') ha ha' rfl rfl
      | non => rcases hd with z | z <;> cases z
      | bl b => rcases hd with z | z <;> cases z
      | int i => rcases hd with z | z <;> cases z
      | str z => rcases hd with z | z <;> cases z
    walk_at "rd"
    rw [non_d hy]
    refine ite2' (fun e => ?_) (fun e => ?_)
    · walk_at "rd"
      rw [non_d hx, e]
      exact q H (Same.refl H)
    · walk_at "rd"
      rw [bl_d true hy]
      refine ite2' (fun e1 => ?_) (fun e1 => ?_)
      · obtain rfl : d = .bool true := by
          cases d with
          | bool b => cases b; (exact absurd e1 (by decide)); rfl
          | _ => cases e1
        cases hy
        cases hx
        walk_at "rd"
        exact q H (Same.refl H)
      · walk_at "rd"
        rw [bl_d false hy]
        refine ite2' (fun e2 => ?_) (fun e2 => ?_)
        · obtain rfl : d = .bool false := by
            cases d with
            | bool b => cases b; rfl; exact absurd e2 (by decide)
            | _ => cases e2
          cases hy
          cases hx
          walk_at "rd"
          exact q H (Same.refl H)
        · walk_at "rd"
          refine isi_d hy (kit_st hy) ?_
          walk_at "rd"
          refine ite2' (fun e4 => ?_) (fun e4 => ?_)
          · have hsh : SeqAt.shaped d = true := by
              cases d <;> first | exact hF | cases e4
            walk_at "rd"
            refine isi_d hx (kit_st hx) ?_
            rw [e4]
            walk_at "rd"
            refine e_d hx hy hsh hsh ?_
            rw [eqv_same hsh]
            exact q H (Same.refl H)
          · walk_at "rd"
            refine isi_d hy (kit_tu hy) ?_
            walk_at "rd"
            refine ite2' (fun e5 => ?_) (fun e5 => ?_)
            · exact X (.inl e5) _
            · walk_at "rd"
              refine isi_d hy (kit_li hy) ?_
              walk_at "rd"
              refine ite2' (fun e6 => ?_) (fun e6 => ?_)
              · exact X (.inr e6) _
              · obtain ⟨i, rfl⟩ : ∃ i, d = .int i := by
                  cases hx with
                  | int i => exact ⟨i, rfl⟩
                  | non => cases e
                  | bl b => cases b; (exact absurd e2 (by decide)); exact absurd e1 (by decide)
                  | str z => cases e4
                  | tup _ _ => cases e5
                  | lst _ _ => cases e6
                have hsh : SeqAt.shaped (.int i) = true := hF
                walk_at "rd"
                refine isi_d hx (kit_in hx) ?_
                walk_at "rd"
                cases hx
                cases hy
                walk_at "rd"
                rw [show isIn (.int i) = true from rfl]
                walk_at "rd"
                rw [decide_eq_true rfl]
                exact q H (Same.refl H)
theorem ok__law_same (Y : Fx K mg) : ∀ n : Nat, FnOk P w K mg base CX0 (n + 1) Y.a__law_same Y.fd__law_same ["_law_found", "_law_due"] (spS (Fine n) K)
  | 0 => same_step Y (fun _ => False) ⟨fun vs H Q E h => by obtain ⟨x, y, d, rfl, _⟩ := h; rfl, fun A outer s H args us vs Q E hr he hb hv hs => by obtain ⟨x, y, d, rfl, _, _, z, _⟩ := hs; exact z.elim⟩
  | n + 1 => same_step Y (Fine n) (ok__law_same Y n)
end
end My

set_option Elab.async false
set_option linter.all false
set_option maxRecDepth 100000
set_option maxHeartbeats 1000000
namespace My
open PySem PySem.Spec PyProof.Rows L2
local macro_rules | `(tactic| walk_at "len") => `(tactic| first | assumption | omega | decide | (simp only [List.length_append, List.length_take, List.length_drop, List.length_cons, List.length_nil, List.length_replicate]; omega))
local macro_rules | `(tactic| walk_at "side") => `(tactic| first | assumption | exact Nat.zero_le _ | decide | omega)
local macro_rules | `(tactic| walk_at "rd1") => `(tactic| first
  | with_reducible refine s_seq ?_
  | with_reducible refine x_gsub ?_
  | with_reducible refine s_asg ?_
  | ((with_reducible refine s_gn ?_); dsimp only [List.set])
  | ((with_reducible refine x_var (v := ?rdv) ?rdhv ?_); (case rdhv => rfl))
  | with_reducible refine x_c ?_
  | with_reducible refine x_op ?_
  | with_reducible refine x_cons ?_
  | with_reducible refine x_nil ?_
  | with_reducible refine x_cb ?_
  | with_reducible refine x_call ?_
  | with_reducible refine x_callS ?_
  | with_reducible refine x_revT ?_
  | with_reducible refine x_dget ?_
  | with_reducible refine x_din ?_
  | with_reducible refine x_dnotin ?_
  | with_reducible refine s_dput ?_
  | with_reducible refine x_dnew ?_
  | with_reducible refine s_try ?_
  | with_reducible refine s_raise ?_
  | with_reducible refine s_if ?_
  | with_reducible refine s_ret ?_
  | with_reducible refine s_retN ?_
  | with_reducible refine s_next ?_
  | with_reducible refine s_brk ?_
  | with_reducible refine s_cont ?_
  | with_reducible refine s_drop ?_
  | with_reducible refine s_par ?_
  | with_reducible refine s_par3 ?_
  | ((with_reducible refine s_p2 ?_); dsimp only [List.set])
  | ((with_reducible refine s_p3 ?_); dsimp only [List.set])
  | with_reducible refine f_r1 ?_
  | with_reducible refine f_r2 ?_
  | with_reducible refine f_l ?_
  | with_reducible refine f_t ?_
  | with_reducible refine f_s ?_
  | with_reducible refine c_r1 ?_
  | with_reducible refine c_r2 ?_
  | with_reducible refine c_l ?_
  | with_reducible refine c_t ?_
  | with_reducible refine c_s ?_
  | with_reducible refine x_tst ?_
  | with_reducible refine x_tru ?_
  | with_reducible refine x_truB ?_
  | with_reducible refine x_bl2 ?_
  | with_reducible refine x_int ?_
  | with_reducible refine x_str ?_
  | with_reducible refine x_not ?_
  | with_reducible refine x_and ?_
  | with_reducible refine x_or ?_
  | with_reducible refine x_andV ?_
  | with_reducible refine x_orV ?_
  | with_reducible refine x_notV ?_
  | with_reducible refine x_if ?_
  | with_reducible refine x_yes ?_
  | with_reducible refine x_un ?_
  | with_reducible refine x_tup ?_
  | with_reducible refine x_lst ?_
  | with_reducible refine x_callK ?_
  | with_reducible refine x_callK0 ?_
  | with_reducible refine x_bm ?_
  | with_reducible refine x_bm0 ?_
  | with_reducible refine x_tyS ?_
  | with_reducible refine x_sl ?_
  | with_reducible refine x_nopart ?_
  | with_reducible refine x_part ?_
  | with_reducible refine x_fmt0 ?_
  | with_reducible refine x_gc ?_
  | with_reducible refine x_gz ?_
  | with_reducible refine x_ckw ?_
  | with_reducible refine x_fmt ?_
  | with_reducible refine x_chain ?_
  | with_reducible refine a_ii ?_
  | ((with_reducible refine sl_to ?rda ?rdb ?_); (case rda => walk_at "len"); (case rdb => walk_at "len"))
  | ((with_reducible refine sl_from ?rda ?rdb ?_); (case rda => walk_at "len"); (case rdb => walk_at "len"))
  | ((with_reducible refine sl_mid ?rda ?rdb ?rdc ?_); (case rda => walk_at "len"); (case rdb => walk_at "len"); (case rdc => walk_at "len"))
  | ((with_reducible refine a_SS ?rda ?_); (case rda => walk_at "len"))
  | ((with_reducible refine ln_S ?rda ?_); (case rda => walk_at "len"))
  | with_reducible refine e_SS ?_
  | with_reducible refine ne_SS ?_
  | with_reducible refine s_ii ?_
  | ((with_reducible refine md_ii ?rdc ?_); (case rdc => first | decide | assumption | omega))
  | with_reducible refine n_i ?_
  | with_reducible refine e_ii ?_
  | with_reducible refine e_bb ?_
  | with_reducible refine ne_ii ?_
  | with_reducible refine ne_bb ?_
  | with_reducible refine lt_ii ?_
  | with_reducible refine lt_ss ?_
  | with_reducible refine le_ii ?_
  | with_reducible refine le_ss ?_
  | with_reducible refine gt_ii ?_
  | with_reducible refine gt_ss ?_
  | with_reducible refine ge_ii ?_
  | with_reducible refine e_ss ?_
  | with_reducible refine ne_ss ?_
  | with_reducible refine is_N ?_
  | with_reducible refine is_T ?_
  | with_reducible refine is_B ?_
  | with_reducible refine isn_N ?_
  | with_reducible refine isn_T ?_
  | with_reducible refine isn_B ?_
  | with_reducible refine in_s ?_
  | with_reducible refine nin_s ?_
  | with_reducible refine i_i ?_
  | with_reducible refine i_b ?_
  | with_reducible refine ab_i ?_
  | with_reducible refine mx_ii ?_
  | with_reducible refine mn_ii ?_
  | with_reducible refine ty_N ?_
  | with_reducible refine ty_B ?_
  | with_reducible refine ty_I ?_
  | with_reducible refine ty_S ?_
  | with_reducible refine ma_s ?_
  | with_reducible refine mp_s ?_
  | with_reducible refine mdg_s ?_
  | with_reducible refine mf_s ?_
  | with_reducible refine iteT ?_
  | with_reducible refine iteF ?_
  | with_reducible refine iteNt ?_
  | with_reducible refine iteNf ?_
  | with_reducible refine iteTd (by decide) ?_
  | with_reducible refine iteFd (by decide) ?_
  | with_reducible refine iteNd (by decide) ?_
  | with_reducible refine iteNdF (by decide) ?_
  | ((with_reducible refine iteFd ?rdn ?_); (case rdn => (intro rdz; cases rdz; done)))
  | ((with_reducible refine iteNdF ?rdn ?_); (case rdn => (intro rdz; cases rdz; done))))
local macro_rules | `(tactic| walk_at "rd") => `(tactic| (repeat walk_at "rd1"))
section
variable {P : Program} {w : World} {K : PySem.W.Frag} {mg : Str → Option Value} {base : Heap}
theorem log_120 {n : Int} (h0 : 0 < n) (h : n < 2 ^ 120) : n.natAbs.log2 < 9000 := by
  have h1 : n.natAbs < 2 ^ 120 := by omega
  exact Nat.lt_trans ((Nat.log2_lt (by omega)).mpr h1) (by decide)
/-! a jar of digits -/
def JarAt (H : Hp) (j : Addr) : Prop := ∃ a b t : Int, H j = some (.lst [.int a, .int b, .int t]) ∧ 0 ≤ a ∧ 0 ≤ b ∧ b < 2 ^ 32
theorem JarAt.new {H : Hp} {j p : Addr} {o : HO} (h : JarAt H j) (hp : H p = none) : JarAt (upd H p o) j := by
  obtain ⟨a, b, t, h1, h2⟩ := h
  exact ⟨a, b, t, by rw [upd_ne (ne_of_none h1 hp)]; exact h1, h2⟩
theorem JarAt.same {H H' : Hp} {j : Addr} (h : JarAt H j) (e : Same H H') : JarAt H' j := by
  obtain ⟨a, b, t, h1, h2⟩ := h
  exact ⟨a, b, t, e _ _ h1, h2⟩
theorem JarAt.off {H : Hp} {j p : Addr} (h : JarAt H j) (hp : H p = none) : p ≠ j := by
  obtain ⟨a, b, t, h1, _⟩ := h
  exact ne_new h1 hp
theorem JarAt.keep {H : Hp} {j p : Addr} {o : HO} (h : JarAt H j) (h1 : p ≠ j) : JarAt (upd H p o) j := by
  obtain ⟨a, b, t, e1, h3⟩ := h
  exact ⟨a, b, t, by rw [upd_ne (Ne.symm h1)]; exact e1, h3⟩
abbrev Fr (j : Addr) (H H' : Hp) : Prop := Frm j j H H'
theorem Fr.cut {j D : Addr} {R H H' : Hp} {o : HO} (hF : Fr j R H') (hR : Fr j R H) (hD : H D = none) : Fr j R (upd H' D o) := by
  intro x u e1 e2 e3
  have e4 := hF x u e1 e2 e3
  have e5 : x ≠ D := by
    rintro rfl
    have e6 := hR x u e1 e2 e3
    rw [hD] at e6
    cases e6
  rw [upd_ne e5]
  exact e4
def sp__law_well (K : PySem.W.Frag) : Sp := fun vs H Q _ => ∃ i : Int, vs = [.int i] ∧ ∀ j H', H j = none → JarAt H' j → Same H H' → Q (.ref j) H'
theorem ok__law_well (Y : Fx K mg) : FnOk P w K mg base CX0 1 Y.a__law_well Y.fd__law_well ["_law_cell"] (sp__law_well K) := by
  refine Y.F__law_well.ok sc__law_well (fun vs H Q E h => ?_) (fun cdv A outer st H vs Q E hr h => ?_)
  · obtain ⟨i, rfl, _⟩ := h
    rfl
  · obtain ⟨i, rfl, q⟩ := h
    refine ⟨_, b__law_well Y hr, ?_⟩
    show t__law_well K _ [some (.int i), none] H
    unfold t__law_well
    walk_at "rd"
    refine pw_ii ⟨by decide, by decide, by decide⟩ ?_
    walk_at "rd"
    refine m_ii (.inl (.inr (by decide))) ?_
    walk_at "rd"
    refine ⟨by show 3 ≤ sizeLine; decide, fun p hp => ?_⟩
    exact q p _ hp ⟨_, _, _, upd_same, by split <;> omega, Int.emod_nonneg _ (by decide), Int.lt_trans (Int.emod_lt_of_pos _ (by decide)) (by decide)⟩ (same_upd hp)
def sp__law_draw (K : PySem.W.Frag) : Sp := fun vs H Q _ => ∃ (j : Addr) (n : Int), vs = [.ref j, .int n] ∧ JarAt H j ∧ 0 < n ∧ n < 2 ^ 120 ∧ ∀ r H', 0 ≤ r → r < n → JarAt H' j → Fr j H H' → Q (.int r) H'
theorem ok__law_draw (Y : Fx K mg) : FnOk P w K mg base CX0 1 Y.a__law_draw Y.fd__law_draw ["_law_well_here", "_law_many"] (sp__law_draw K) := by
  refine Y.F__law_draw.ok sc__law_draw (fun vs H Q E h => ?_) (fun cdv A outer st H vs Q E hr h => ?_)
  · obtain ⟨j, n, rfl, _⟩ := h
    rfl
  · obtain ⟨j, n, rfl, ⟨a, b, t, hj, ha, hb0, hb1⟩, hn0, hn1, q⟩ := h
    refine ⟨_, b__law_draw Y hr, ?_⟩
    show t__law_draw K _ [some (.ref j), some (.int n), none] H
    unfold t__law_draw
    walk_at "rd"
    refine ix_L (lst_of hj) (by rfl) ?_
    walk_at "rd"
    refine ix_L (lst_of hj) (by rfl) ?_
    walk_at "rd"
    refine st_L hj (by decide) (by show (2 : Int) < 3; decide) ?_
    show tSeq _ _ _ [some (.ref j), some (.int n), some (.int a)] (upd H j (.lst [.int a, .int b, .int (t + 1)]))
    have hj2 : upd H j (.lst [.int a, .int b, .int (t + 1)]) j = some (.lst [.int a, .int b, .int (t + 1)]) := upd_same
    have hF : Fr j H (upd H j (.lst [.int a, .int b, .int (t + 1)])) := (Frm.refl H).updS
    generalize upd H j (.lst [.int a, .int b, .int (t + 1)]) = H2 at hj2 hF ⊢
    walk_at "rd"
    refine ix_L (lst_of hj2) (by rfl) ?_
    walk_at "rd"
    refine m_ii (.inl (.inr (by decide))) ?_
    walk_at "rd"
    refine ix_L (lst_of hj2) (by rfl) ?_
    walk_at "rd"
    refine m_ii (.inl (.inr (by decide))) ?_
    walk_at "rd"
    refine st_L hj2 (by decide) (by show (1 : Int) < 3; decide) ?_
    have e0 : 0 ≤ (b * 16807 + (t + 1) * 127 + 3) % 2147483489 := Int.emod_nonneg _ (by decide)
    have e1 : (b * 16807 + (t + 1) * 127 + 3) % 2147483489 < 2147483489 := Int.emod_lt_of_pos _ (by decide)
    show tSeq _ _ _ [some (.ref j), some (.int n), some (.int a)] (upd H2 j (.lst [.int a, .int ((b * 16807 + (t + 1) * 127 + 3) % 2147483489), .int (t + 1)]))
    have hj3 : upd H2 j (.lst [.int a, .int ((b * 16807 + (t + 1) * 127 + 3) % 2147483489), .int (t + 1)]) j = some (.lst [.int a, .int ((b * 16807 + (t + 1) * 127 + 3) % 2147483489), .int (t + 1)]) := upd_same
    have hF3 : Fr j H (upd H2 j (.lst [.int a, .int ((b * 16807 + (t + 1) * 127 + 3) % 2147483489), .int (t + 1)])) := hF.updS
    generalize upd H2 j (.lst [.int a, .int ((b * 16807 + (t + 1) * 127 + 3) % 2147483489), .int (t + 1)]) = H3 at hj3 hF3 ⊢
    generalize (b * 16807 + (t + 1) * 127 + 3) % 2147483489 = b2 at e0 e1 hj3
    walk_at "rd"
    refine ite2' (fun e => ?_) (fun e => ?_)
    · walk_at "rd"
      refine fd_ii ⟨hn0, log_120 hn0 hn1⟩ ?_
      walk_at "rd"
      refine st_L hj3 (by decide) (by show (0 : Int) < 3; decide) ?_
      walk_at "rd"
      exact q _ _ (Int.emod_nonneg _ (by omega)) (Int.emod_lt_of_pos _ hn0) ⟨_, b2, _, upd_same, Int.ediv_nonneg ha (by omega), e0, by omega⟩ hF3.updS
    · walk_at "rd"
      refine ix_L (lst_of hj3) (by rfl) ?_
      walk_at "rd"
      refine ix_L (lst_of hj3) (by rfl) ?_
      walk_at "rd"
      refine fd_ii ⟨by decide, by decide⟩ ?_
      walk_at "rd"
      refine m_ii (.inl (.inl ⟨by omega, by omega⟩)) ?_
      walk_at "rd"
      refine fd_ii ⟨by decide, by decide⟩ ?_
      walk_at "rd"
      exact q _ H3 (Int.emod_nonneg _ (by omega)) (Int.emod_lt_of_pos _ hn0) ⟨a, b2, _, hj3, ha, e0, by omega⟩ hF3
end
end My

set_option Elab.async false
set_option linter.all false
set_option maxRecDepth 100000
set_option maxHeartbeats 1000000
namespace My
open PySem PySem.Spec PyProof.Rows L2
local macro_rules | `(tactic| walk_at "len") => `(tactic| first | assumption | omega | decide | (simp only [List.length_append, List.length_take, List.length_drop, List.length_cons, List.length_nil, List.length_replicate]; omega))
local macro_rules | `(tactic| walk_at "side") => `(tactic| first | assumption | exact Nat.zero_le _ | decide | omega)
local macro_rules | `(tactic| walk_at "rd1") => `(tactic| first
  | with_reducible refine s_seq ?_
  | with_reducible refine x_gsub ?_
  | with_reducible refine s_asg ?_
  | ((with_reducible refine s_gn ?_); dsimp only [List.set])
  | ((with_reducible refine x_var (v := ?rdv) ?rdhv ?_); (case rdhv => rfl))
  | with_reducible refine x_c ?_
  | with_reducible refine x_op ?_
  | with_reducible refine x_cons ?_
  | with_reducible refine x_nil ?_
  | with_reducible refine x_cb ?_
  | with_reducible refine x_call ?_
  | with_reducible refine x_callS ?_
  | with_reducible refine x_revT ?_
  | with_reducible refine x_dget ?_
  | with_reducible refine x_din ?_
  | with_reducible refine x_dnotin ?_
  | with_reducible refine s_dput ?_
  | with_reducible refine x_dnew ?_
  | with_reducible refine s_try ?_
  | with_reducible refine s_raise ?_
  | with_reducible refine s_if ?_
  | with_reducible refine s_ret ?_
  | with_reducible refine s_retN ?_
  | with_reducible refine s_next ?_
  | with_reducible refine s_brk ?_
  | with_reducible refine s_cont ?_
  | with_reducible refine s_drop ?_
  | with_reducible refine s_par ?_
  | with_reducible refine s_par3 ?_
  | ((with_reducible refine s_p2 ?_); dsimp only [List.set])
  | ((with_reducible refine s_p3 ?_); dsimp only [List.set])
  | with_reducible refine f_r1 ?_
  | with_reducible refine f_r2 ?_
  | with_reducible refine f_l ?_
  | with_reducible refine f_t ?_
  | with_reducible refine f_s ?_
  | with_reducible refine c_r1 ?_
  | with_reducible refine c_r2 ?_
  | with_reducible refine c_l ?_
  | with_reducible refine c_t ?_
  | with_reducible refine c_s ?_
  | with_reducible refine x_tst ?_
  | with_reducible refine x_tru ?_
  | with_reducible refine x_truB ?_
  | with_reducible refine x_bl2 ?_
  | with_reducible refine x_int ?_
  | with_reducible refine x_str ?_
  | with_reducible refine x_not ?_
  | with_reducible refine x_and ?_
  | with_reducible refine x_or ?_
  | with_reducible refine x_andV ?_
  | with_reducible refine x_orV ?_
  | with_reducible refine x_notV ?_
  | with_reducible refine x_if ?_
  | with_reducible refine x_yes ?_
  | with_reducible refine x_un ?_
  | with_reducible refine x_tup ?_
  | with_reducible refine x_lst ?_
  | with_reducible refine x_callK ?_
  | with_reducible refine x_callK0 ?_
  | with_reducible refine x_bm ?_
  | with_reducible refine x_bm0 ?_
  | with_reducible refine x_tyS ?_
  | with_reducible refine x_sl ?_
  | with_reducible refine x_nopart ?_
  | with_reducible refine x_part ?_
  | with_reducible refine x_fmt0 ?_
  | with_reducible refine x_gc ?_
  | with_reducible refine x_gz ?_
  | with_reducible refine x_ckw ?_
  | with_reducible refine x_fmt ?_
  | with_reducible refine x_chain ?_
  | with_reducible refine a_ii ?_
  | ((with_reducible refine sl_to ?rda ?rdb ?_); (case rda => walk_at "len"); (case rdb => walk_at "len"))
  | ((with_reducible refine sl_from ?rda ?rdb ?_); (case rda => walk_at "len"); (case rdb => walk_at "len"))
  | ((with_reducible refine sl_mid ?rda ?rdb ?rdc ?_); (case rda => walk_at "len"); (case rdb => walk_at "len"); (case rdc => walk_at "len"))
  | ((with_reducible refine a_SS ?rda ?_); (case rda => walk_at "len"))
  | ((with_reducible refine ln_S ?rda ?_); (case rda => walk_at "len"))
  | with_reducible refine e_SS ?_
  | with_reducible refine ne_SS ?_
  | with_reducible refine s_ii ?_
  | ((with_reducible refine md_ii ?rdc ?_); (case rdc => first | decide | assumption | omega))
  | with_reducible refine n_i ?_
  | with_reducible refine e_ii ?_
  | with_reducible refine e_bb ?_
  | with_reducible refine ne_ii ?_
  | with_reducible refine ne_bb ?_
  | with_reducible refine lt_ii ?_
  | with_reducible refine lt_ss ?_
  | with_reducible refine le_ii ?_
  | with_reducible refine le_ss ?_
  | with_reducible refine gt_ii ?_
  | with_reducible refine gt_ss ?_
  | with_reducible refine ge_ii ?_
  | with_reducible refine e_ss ?_
  | with_reducible refine ne_ss ?_
  | with_reducible refine is_N ?_
  | with_reducible refine is_T ?_
  | with_reducible refine is_B ?_
  | with_reducible refine isn_N ?_
  | with_reducible refine isn_T ?_
  | with_reducible refine isn_B ?_
  | with_reducible refine in_s ?_
  | with_reducible refine nin_s ?_
  | with_reducible refine i_i ?_
  | with_reducible refine i_b ?_
  | with_reducible refine ab_i ?_
  | with_reducible refine mx_ii ?_
  | with_reducible refine mn_ii ?_
  | with_reducible refine ty_N ?_
  | with_reducible refine ty_B ?_
  | with_reducible refine ty_I ?_
  | with_reducible refine ty_S ?_
  | with_reducible refine ma_s ?_
  | with_reducible refine mp_s ?_
  | with_reducible refine mdg_s ?_
  | with_reducible refine mf_s ?_
  | with_reducible refine iteT ?_
  | with_reducible refine iteF ?_
  | with_reducible refine iteNt ?_
  | with_reducible refine iteNf ?_
  | with_reducible refine iteTd (by decide) ?_
  | with_reducible refine iteFd (by decide) ?_
  | with_reducible refine iteNd (by decide) ?_
  | with_reducible refine iteNdF (by decide) ?_
  | ((with_reducible refine iteFd ?rdn ?_); (case rdn => (intro rdz; cases rdz; done)))
  | ((with_reducible refine iteNdF ?rdn ?_); (case rdn => (intro rdz; cases rdz; done))))
local macro_rules | `(tactic| walk_at "rd") => `(tactic| (repeat walk_at "rd1"))
section
variable {P : Program} {w : World} {K : PySem.W.Frag} {mg : Str → Option Value} {base : Heap}
/-! whether data is changes -/
def isChgD : PyData → Bool
  | .tuple [a, b] => isTxD a && (isNo b || isTxD b)
  | _ => false
def keyD : PyData → List Nat
  | .tuple (.str z :: _) => z.cps.toList
  | _ => []
def zipLt (ks : List (List Nat)) : List Bool := List.zipWith (fun a b => decide (a < b)) ks (ks.drop 1)
def ascL (ks : List (List Nat)) : Bool := (zipLt ks).all id
def isChsD : PyData → Bool
  | .tuple ds => ds.all isChgD && ascL (ds.map keyD)
  | _ => false
theorem zip_len (ks : List (List Nat)) : (zipLt ks).length = ks.length - 1 := by
  unfold zipLt
  rw [List.length_zipWith, List.length_drop]
  omega
theorem zip_at {ks : List (List Nat)} {i : Nat} {a b : List Nat} (h1 : ks[i]? = some a) (h2 : ks[i + 1]? = some b) : (zipLt ks)[i]? = some (decide (a < b)) := by
  unfold zipLt
  rw [List.getElem?_zipWith, h1, List.getElem?_drop, Nat.add_comm 1 i, h2]
def sp_is_change (K : PySem.W.Frag) : Sp := fun vs H Q _ => ∃ (x : V) (d : PyData), vs = [x] ∧ Dp K H x d ∧ Q (.bl (isChgD d)) H
theorem chg_len {ds : List PyData} (h : ds.length ≠ 2) : isChgD (.tuple ds) = false := by
  rcases ds with _ | ⟨a, _ | ⟨b, _ | ⟨c, r⟩⟩⟩ <;> first | rfl | exact absurd rfl h
theorem ok_is_change (Y : Fx K mg) : FnOk P w K mg base CX0 2 Y.a_is_change Y.fd_is_change ["value"] (sp_is_change K) := by
  refine Y.F_is_change.ok sc_is_change (fun vs H Q E h => ?_) (fun cdv A outer s H vs Q E hr h => ?_)
  · obtain ⟨x, d, rfl, _⟩ := h
    rfl
  · obtain ⟨x, d, rfl, hx, q⟩ := h
    refine ⟨_, b_is_change Y (ok_is_text Y) hr, ?_⟩
    show t_is_change K _ _ [some x] H
    unfold t_is_change
    walk_at "rd"
    refine ty_D hx ?_
    cases hx with
    | @tup a us ds hs ha =>
      have hlen := dpAll_len ha
      walk_at "rd"
      refine iteNd rfl ?_
      walk_at "rd"
      refine ln_t hs ?_
      walk_at "rd"
      rw [hlen]
      by_cases h2 : ds.length = 2
      · obtain ⟨a, b, rfl⟩ : ∃ a b, ds = [a, b] := by
          rcases ds with _ | ⟨a, _ | ⟨b, _ | ⟨c, r⟩⟩⟩
          · cases h2
          · cases h2
          · exact ⟨a, b, rfl⟩
          · simp at h2
        cases ha with
        | cons h1 ha =>
          cases ha with
          | cons h3 ha =>
            cases ha
            rename_i u v
            have q' : Q (.bl (isTxD a && (isNo b || isTxD b))) H := q
            refine iteNd rfl ?_
            walk_at "rd"
            refine ix_T hs (by rfl) ?_
            walk_at "rd"
            refine ⟨u, a, rfl, h1, ?_⟩
            walk_at "rd"
            refine ite2' (fun e => ?_) (fun e => ?_)
            · rw [e, Bool.true_and] at q'
              walk_at "rd"
              refine ix_T hs (by rfl) ?_
              walk_at "rd"
              rw [non_d h3]
              refine ite2' (fun e2 => ?_) (fun e2 => ?_)
              · rw [e2] at q'
                exact q'
              · rw [e2, Bool.false_or] at q'
                walk_at "rd"
                refine ix_T hs (by rfl) ?_
                walk_at "rd"
                exact ⟨v, b, rfl, h3, q'⟩
            · rw [e, Bool.false_and] at q'
              exact q'
      · refine iteNdF (by omega) ?_
        walk_at "rd"
        rw [chg_len h2] at q
        exact q
    | non =>
      walk_at "rd"
      exact q
    | bl b =>
      walk_at "rd"
      refine iteNdF (show ¬ (("bool" : String) = "tuple") by decide) ?_
      walk_at "rd"
      exact q
    | int i =>
      walk_at "rd"
      refine iteNdF (show ¬ (("int" : String) = "tuple") by decide) ?_
      walk_at "rd"
      exact q
    | str z =>
      walk_at "rd"
      refine iteNdF (show ¬ (("str" : String) = "tuple") by decide) ?_
      walk_at "rd"
      exact q
    | lst h _ =>
      walk_at "rd"
      refine iteNdF (show ¬ (("list" : String) = "tuple") by decide) ?_
      walk_at "rd"
      exact q
theorem lcZ_mk {H : Hp} {Q : VK} {σ : L2.St} {g : TG} {t : TT} {te : TE} {ws : List Nat} {a b : Addr} {xs ys : List V} (hx : SqL K H a xs) (hy : SqL K H b ys) (Pv : Addr → Nat → Hp → Prop) (n : Nat) (hn : n = min xs.length ys.length)
    (h0 : ∀ D, H D = none → Pv D 0 (upd H D (.lst []))) (hl : ∀ D i H', H D = none → Pv D i H' → SqL K H' a xs ∧ SqL K H' b ys)
    (hs : ∀ D i x y T H', H D = none → xs[i]? = some x → ys[i]? = some y → Pv D i H' → H' T = none → g (.ref T) (wipe σ ws) (upd H' T (.tup [x, y])) fun σ2 H2 => wipe σ2 ws = wipe σ ws ∧ t σ2 H2 fun b H3 => if b = true then te σ2 H3 fun y H4 => ∃ acc, H4 D = some (.lst acc) ∧ acc.length < sizeLine ∧ Pv D (i + 1) (upd H4 D (.lst (acc ++ [y]))) else Pv D (i + 1) H3)
    (hd : ∀ D H', H D = none → Pv D n H' → Q (.ref D) H') : ∃ a' b' xs ys, [V.ref a, .ref b] = [.ref a', .ref b'] ∧ SqL K H a' xs ∧ SqL K H b' ys ∧ LcW (Itz K a' b') g t te ws σ Q H := by
  refine ⟨a, b, xs, ys, rfl, hx, hy, fun D hD => ⟨fun i m H' => m = n - i ∧ i ≤ n ∧ Pv D i H', ⟨n, by simp, Nat.zero_le _, h0 D hD⟩, ?_⟩⟩
  rintro i m H' ⟨rfl, hi, p⟩
  obtain ⟨sx, sy⟩ := hl D i H' hD p
  by_cases hlt : i < n
  · refine .inr ⟨⟨xs, ys, _, _, sx, sy, List.getElem?_eq_getElem (by omega), List.getElem?_eq_getElem (by omega)⟩, Pv D (i + 1), fun H2 p' => ⟨n - (i + 1), by omega, rfl, hlt, p'⟩, fun x H2 y => ?_⟩
    obtain ⟨T, x', y', rfl, hT, rfl, e1, e2⟩ := y
    exact hs D i x' y' T H' hD (e1 _ sx) (e2 _ sy) p hT
  · have e : i = n := by omega
    subst e
    exact .inl ⟨⟨xs, ys, sx, sy, by omega⟩, hd D H' hD p⟩
theorem c_z {σ : L2.St} {H : Hp} {Q : VK} {tr : TA} {g : TG} {t : TT} {te : TE} {ws : List Nat} (h : tr σ H fun vs H1 => ∃ a b xs ys, vs = [.ref a, .ref b] ∧ SqL K H1 a xs ∧ SqL K H1 b ys ∧ LcW (Itz K a b) g t te ws σ Q H1) : tLc (iZip K tr) g t te ws σ H Q := h
def sp_is_changes (K : PySem.W.Frag) : Sp := fun vs H Q _ => ∃ (x : V) (d : PyData), vs = [x] ∧ Dp K H x d ∧ (∀ ds, d = .tuple ds → ds.length ≤ 300000) ∧ ∀ H', Same H H' → Q (.bl (isChsD d)) H'
theorem bv_snoc {α : Type} {ds : List α} {f : α → Bool} {i : Nat} {d : α} (h : ds[i]? = some d) : ((ds.take (i + 1)).map fun d => V.bl (f d)) = ((ds.take i).map fun d => V.bl (f d)) ++ [V.bl (f d)] := by
  rw [take_snoc h, List.map_append]
  rfl
theorem ok_is_changes (Y : Fx K mg) : FnOk P w K mg base CX0 3 Y.a_is_changes Y.fd_is_changes ["value"] (sp_is_changes K) := by
  refine Y.F_is_changes.ok sc_is_changes (fun vs H Q E h => ?_) (fun cdv A outer s H vs Q E hr h => ?_)
  · obtain ⟨x, d, rfl, _⟩ := h
    rfl
  · obtain ⟨x, d, rfl, hx, hz, q⟩ := h
    refine ⟨_, b_is_changes Y (ok_is_change Y) hr, ?_⟩
    show t_is_changes K _ _ [some x, none, none, none, none, none, none] H
    unfold t_is_changes
    walk_at "rd"
    refine ty_D hx ?_
    cases hx with
    | @tup p us ds hs ha =>
      have hlen := dpAll_len ha
      have hds := hz ds rfl
      have q' : ∀ H', Same H H' → Q (.bl (ds.all isChgD && ascL (ds.map keyD))) H' := q
      walk_at "rd"
      refine iteNd rfl ?_
      walk_at "rd"
      refine lcT_mk hs (fun D i H' => Same H H' ∧ H' D = some (.lst ((ds.take i).map fun d => V.bl (isChgD d)))) (fun D hD => ⟨same_upd hD, upd_same⟩) (fun D i H' hD _ hP => same_sqt hP.1 hs) (fun D i x H' hD hxi hP => ?_) (fun D H' hD hP => ?_)
      · obtain ⟨hS, hH⟩ := hP
        have hi : i < ds.length := by rw [← hlen]; exact (List.getElem?_eq_some_iff.mp hxi).1
        obtain ⟨v, hv, hd⟩ := dpAll_get ha hi
        rw [hxi] at hv
        cases hv
        refine ⟨rfl, ?_⟩
        walk_at "rd"
        refine ⟨x, ds[i], rfl, dp_mono hS _ _ hd, ?_⟩
        refine ⟨_, hH, Nat.lt_of_le_of_lt (show _ ≤ 300000 by rw [List.length_map, List.length_take]; omega) (by decide), same_mut hS hD, ?_⟩
        rw [upd_same, bv_snoc (List.getElem?_eq_getElem hi)]
      · obtain ⟨hS, hH⟩ := hP
        rw [hlen, List.take_of_length_le (Nat.le_refl _), show (ds.map fun d => V.bl (isChgD d)) = (ds.map isChgD).map V.bl by rw [List.map_map]; rfl] at hH
        walk_at "rd"
        refine al_b (lst_of hH) ?_
        have ea : (ds.map isChgD).all id = ds.all isChgD := by rw [List.all_map]; rfl
        rw [ea]
        walk_at "rd"
        cases hall : ds.all isChgD with
        | false =>
          rw [hall, Bool.false_and] at q'
          walk_at "rd"
          exact q' _ hS
        | true =>
          rw [hall, Bool.true_and] at q'
          refine iteNt ?_
          walk_at "rd"
          refine lcT_mk (same_sqt hS hs) (fun D2 i H2 => Same H' H2 ∧ H2 D2 = some (.lst (tv ((ds.take i).map keyD)))) (fun D2 hD2 => ⟨same_upd hD2, upd_same⟩) (fun D2 i H2 hD2 _ hP => same_sqt (hS.trans hP.1) hs) (fun D2 i x H2 hD2 hxi hP => ?_) (fun D2 H2 hD2 hP => ?_)
          · obtain ⟨hS2, hH2⟩ := hP
            have hi : i < ds.length := by rw [← hlen]; exact (List.getElem?_eq_some_iff.mp hxi).1
            obtain ⟨v, hv, hd⟩ := dpAll_get ha hi
            rw [hxi] at hv
            cases hv
            have hci : isChgD ds[i] = true := List.all_eq_true.mp hall _ (List.getElem_mem hi)
            have hdi := List.getElem?_eq_getElem hi
            generalize ds[i] = dd at hci hd hdi
            obtain ⟨z, b, rfl⟩ : ∃ z b, dd = .tuple [.str z, b] := by
              cases dd with
              | tuple es =>
                rcases es with _ | ⟨a, _ | ⟨b, _ | ⟨c, r⟩⟩⟩
                · cases hci
                · cases hci
                · have hci' : (isTxD a && (isNo b || isTxD b)) = true := hci
                  rw [Bool.and_eq_true] at hci'
                  cases a with
                  | str z => exact ⟨z, b, rfl⟩
                  | _ => cases hci'.1
                · cases hci
              | _ => cases hci
            cases hd with
            | tup hs2 ha2 =>
              cases ha2 with
              | cons k1 ha2 =>
                cases ha2 with
                | cons k2 ha2 =>
                  cases ha2
                  cases k1
                  refine gt_T (same_sqt (hS.trans hS2) hs2) rfl ?_
                  refine x_gc ?_
                  refine s_gn ?_
                  refine x_gc ?_
                  refine s_gn ?_
                  refine x_gz ?_
                  refine ⟨rfl, ?_⟩
                  show tYes [_, none, none, some (.str z), some _, none, none] H2 _
                  walk_at "rd"
                  refine ⟨_, hH2, Nat.lt_of_le_of_lt (show _ ≤ 300000 by rw [tv_len, List.length_map, List.length_take]; omega) (by decide), same_mut hS2 hD2, ?_⟩
                  rw [upd_same, take_snoc hdi, List.map_append, tv_app]
                  show some (HO.lst (_ ++ [V.str z])) = some (HO.lst (_ ++ [V.str (S z.cps.toList)]))
                  rw [← S_eta z]
          · obtain ⟨hS2, hH2⟩ := hP
            rw [hlen, List.take_of_length_le (Nat.le_refl _)] at hH2
            generalize hks : ds.map keyD = ks at hH2 q'
            have hkl : ks.length ≤ 300000 := by rw [← hks, List.length_map]; exact hds
            have hS02 := hS.trans hS2
            walk_at "rd"
            refine c_z ?_
            walk_at "rd"
            refine sl_L (lst_of hH2) fun p3 hp3 => ?_
            rw [show (some (1 : Int)) = some ((1 : Nat) : Int) from rfl, cutV_from]
            have hS3 := same_upd hp3 (o := .lst ((tv ks).drop 1))
            refine x_nil ?_
            refine lcZ_mk (lst_of (hS3 _ _ hH2)) (lst_of upd_same) (fun D3 i H3 => Same (upd H2 p3 (.lst ((tv ks).drop 1))) H3 ∧ H3 D3 = some (.lst (((zipLt ks).take i).map V.bl))) (ks.length - 1) (by rw [List.length_drop, tv_len]; omega) (fun D3 hD3 => ⟨same_upd hD3, upd_same⟩) (fun D3 i H3 hD3 hP => ⟨lst_of (hP.1 _ _ (hS3 _ _ hH2)), lst_of (hP.1 _ _ upd_same)⟩) (fun D3 i x y T H3 hD3 hxi hyi hP hT => ?_) (fun D3 H3 hD3 hP => ?_)
            · obtain ⟨hS4, hH4⟩ := hP
              unfold tv at hxi hyi
              rw [List.getElem?_drop, List.getElem?_map] at hyi
              rw [List.getElem?_map] at hxi
              rw [Nat.add_comm] at hyi
              cases hk1 : ks[i]? with
              | none => rw [hk1] at hxi; cases hxi
              | some k1 =>
                cases hk2 : ks[i + 1]? with
                | none => rw [hk2] at hyi; cases hyi
                | some k2 =>
                  rw [hk1] at hxi
                  rw [hk2] at hyi
                  cases hxi
                  cases hyi
                  refine gt_T (tup_of upd_same) rfl ?_
                  refine x_gc ?_
                  refine s_gn ?_
                  refine x_gc ?_
                  refine s_gn ?_
                  refine x_gz ?_
                  refine ⟨rfl, ?_⟩
                  show tYes [_, none, _, none, none, some (.str (S k1)), some (.str (S k2))] _ _
                  walk_at "rd"
                  have hne : D3 ≠ T := fun z => by rw [← z, hH4] at hT; cases hT
                  refine ⟨_, (by rw [upd_ne hne]; exact hH4), Nat.lt_of_le_of_lt (show _ ≤ 300000 by rw [List.length_map, List.length_take, zip_len]; omega) (by decide), ?_, ?_⟩
                  · exact same_mut (same_new hS4 hT) hD3
                  · rw [upd_same, take_snoc (zip_at hk1 hk2), List.map_append]
                    rfl
            · obtain ⟨hS4, hH4⟩ := hP
              rw [← zip_len, List.take_of_length_le (Nat.le_refl _)] at hH4
              walk_at "rd"
              refine al_b (lst_of hH4) ?_
              exact q' _ ((hS02.trans hS3).trans hS4)
    | non =>
      walk_at "rd"
      exact q H (Same.refl H)
    | bl b =>
      walk_at "rd"
      refine iteNdF (show ¬ (("bool" : String) = "tuple") by decide) ?_
      walk_at "rd"
      exact q H (Same.refl H)
    | int i =>
      walk_at "rd"
      refine iteNdF (show ¬ (("int" : String) = "tuple") by decide) ?_
      walk_at "rd"
      exact q H (Same.refl H)
    | str z =>
      walk_at "rd"
      refine iteNdF (show ¬ (("str" : String) = "tuple") by decide) ?_
      walk_at "rd"
      exact q H (Same.refl H)
    | lst h _ =>
      walk_at "rd"
      refine iteNdF (show ¬ (("list" : String) = "tuple") by decide) ?_
      walk_at "rd"
      exact q H (Same.refl H)
end
end My

set_option Elab.async false
set_option linter.all false
set_option maxRecDepth 100000
set_option maxHeartbeats 1000000
namespace My
open PySem PySem.Spec PyProof.Rows L2
local macro_rules | `(tactic| walk_at "len") => `(tactic| first | assumption | omega | decide | (simp only [List.length_append, List.length_take, List.length_drop, List.length_cons, List.length_nil, List.length_replicate]; omega))
local macro_rules | `(tactic| walk_at "side") => `(tactic| first | assumption | exact Nat.zero_le _ | decide | omega)
local macro_rules | `(tactic| walk_at "rd1") => `(tactic| first
  | with_reducible refine s_seq ?_
  | with_reducible refine x_gsub ?_
  | with_reducible refine s_asg ?_
  | ((with_reducible refine s_gn ?_); dsimp only [List.set])
  | ((with_reducible refine x_var (v := ?rdv) ?rdhv ?_); (case rdhv => rfl))
  | with_reducible refine x_c ?_
  | with_reducible refine x_op ?_
  | with_reducible refine x_cons ?_
  | with_reducible refine x_nil ?_
  | with_reducible refine x_cb ?_
  | with_reducible refine x_call ?_
  | with_reducible refine x_callS ?_
  | with_reducible refine x_revT ?_
  | with_reducible refine x_dget ?_
  | with_reducible refine x_din ?_
  | with_reducible refine x_dnotin ?_
  | with_reducible refine s_dput ?_
  | with_reducible refine x_dnew ?_
  | with_reducible refine s_try ?_
  | with_reducible refine s_raise ?_
  | with_reducible refine s_if ?_
  | with_reducible refine s_ret ?_
  | with_reducible refine s_retN ?_
  | with_reducible refine s_next ?_
  | with_reducible refine s_brk ?_
  | with_reducible refine s_cont ?_
  | with_reducible refine s_drop ?_
  | with_reducible refine s_par ?_
  | with_reducible refine s_par3 ?_
  | ((with_reducible refine s_p2 ?_); dsimp only [List.set])
  | ((with_reducible refine s_p3 ?_); dsimp only [List.set])
  | with_reducible refine f_r1 ?_
  | with_reducible refine f_r2 ?_
  | with_reducible refine f_l ?_
  | with_reducible refine f_t ?_
  | with_reducible refine f_s ?_
  | with_reducible refine c_r1 ?_
  | with_reducible refine c_r2 ?_
  | with_reducible refine c_l ?_
  | with_reducible refine c_t ?_
  | with_reducible refine c_s ?_
  | with_reducible refine x_tst ?_
  | with_reducible refine x_tru ?_
  | with_reducible refine x_truB ?_
  | with_reducible refine x_bl2 ?_
  | with_reducible refine x_int ?_
  | with_reducible refine x_str ?_
  | with_reducible refine x_not ?_
  | with_reducible refine x_and ?_
  | with_reducible refine x_or ?_
  | with_reducible refine x_andV ?_
  | with_reducible refine x_orV ?_
  | with_reducible refine x_notV ?_
  | with_reducible refine x_if ?_
  | with_reducible refine x_yes ?_
  | with_reducible refine x_un ?_
  | with_reducible refine x_tup ?_
  | with_reducible refine x_lst ?_
  | with_reducible refine x_callK ?_
  | with_reducible refine x_callK0 ?_
  | with_reducible refine x_bm ?_
  | with_reducible refine x_bm0 ?_
  | with_reducible refine x_tyS ?_
  | with_reducible refine x_sl ?_
  | with_reducible refine x_nopart ?_
  | with_reducible refine x_part ?_
  | with_reducible refine x_fmt0 ?_
  | with_reducible refine x_gc ?_
  | with_reducible refine x_gz ?_
  | with_reducible refine x_ckw ?_
  | with_reducible refine x_fmt ?_
  | with_reducible refine x_chain ?_
  | with_reducible refine a_ii ?_
  | ((with_reducible refine sl_to ?rda ?rdb ?_); (case rda => walk_at "len"); (case rdb => walk_at "len"))
  | ((with_reducible refine sl_from ?rda ?rdb ?_); (case rda => walk_at "len"); (case rdb => walk_at "len"))
  | ((with_reducible refine sl_mid ?rda ?rdb ?rdc ?_); (case rda => walk_at "len"); (case rdb => walk_at "len"); (case rdc => walk_at "len"))
  | ((with_reducible refine a_SS ?rda ?_); (case rda => walk_at "len"))
  | ((with_reducible refine ln_S ?rda ?_); (case rda => walk_at "len"))
  | with_reducible refine e_SS ?_
  | with_reducible refine ne_SS ?_
  | with_reducible refine s_ii ?_
  | ((with_reducible refine md_ii ?rdc ?_); (case rdc => first | decide | assumption | omega))
  | with_reducible refine n_i ?_
  | with_reducible refine e_ii ?_
  | with_reducible refine e_bb ?_
  | with_reducible refine ne_ii ?_
  | with_reducible refine ne_bb ?_
  | with_reducible refine lt_ii ?_
  | with_reducible refine lt_ss ?_
  | with_reducible refine le_ii ?_
  | with_reducible refine le_ss ?_
  | with_reducible refine gt_ii ?_
  | with_reducible refine gt_ss ?_
  | with_reducible refine ge_ii ?_
  | with_reducible refine e_ss ?_
  | with_reducible refine ne_ss ?_
  | with_reducible refine is_N ?_
  | with_reducible refine is_T ?_
  | with_reducible refine is_B ?_
  | with_reducible refine isn_N ?_
  | with_reducible refine isn_T ?_
  | with_reducible refine isn_B ?_
  | with_reducible refine in_s ?_
  | with_reducible refine nin_s ?_
  | with_reducible refine i_i ?_
  | with_reducible refine i_b ?_
  | with_reducible refine ab_i ?_
  | with_reducible refine mx_ii ?_
  | with_reducible refine mn_ii ?_
  | with_reducible refine ty_N ?_
  | with_reducible refine ty_B ?_
  | with_reducible refine ty_I ?_
  | with_reducible refine ty_S ?_
  | with_reducible refine ma_s ?_
  | with_reducible refine mp_s ?_
  | with_reducible refine mdg_s ?_
  | with_reducible refine mf_s ?_
  | with_reducible refine iteT ?_
  | with_reducible refine iteF ?_
  | with_reducible refine iteNt ?_
  | with_reducible refine iteNf ?_
  | with_reducible refine iteTd (by decide) ?_
  | with_reducible refine iteFd (by decide) ?_
  | with_reducible refine iteNd (by decide) ?_
  | with_reducible refine iteNdF (by decide) ?_
  | ((with_reducible refine iteFd ?rdn ?_); (case rdn => (intro rdz; cases rdz; done)))
  | ((with_reducible refine iteNdF ?rdn ?_); (case rdn => (intro rdz; cases rdz; done))))
local macro_rules | `(tactic| walk_at "rd") => `(tactic| (repeat walk_at "rd1"))
section
variable {P : Program} {w : World} {K : PySem.W.Frag} {mg : Str → Option Value} {base : Heap}
theorem tri : ∀ {a b : List Nat}, ¬ b < a → a ≠ b → a < b
  | [], [], _, h2 => absurd rfl h2
  | [], _ :: _, _, _ => List.nil_lt_cons ..
  | _ :: _, [], h1, _ => absurd (List.nil_lt_cons ..) h1
  | x :: a, y :: b, h1, h2 => by
    rw [List.cons_lt_cons_iff] at h1 ⊢
    by_cases hxy : x = y
    · subst hxy
      exact .inr ⟨rfl, tri (fun h => h1 (.inr ⟨rfl, h⟩)) (fun h => h2 (by rw [h]))⟩
    · exact .inl (by have : ¬ y < x := fun h => h1 (.inl h); omega)
theorem asc_of : ∀ (a : List Nat) (r : List (List Nat)), (a :: r).Nodup → risingS (S a) (r.map S) = true → ascL (a :: r) = true
  | a, [], _, _ => rfl
  | a, b :: r, hn, h => by
    have h' : (!ltCps b a && risingS (S b) (r.map S)) = true := h
    rw [Bool.and_eq_true, ltCps_eq] at h'
    obtain ⟨h1, h2⟩ := h'
    rw [List.nodup_cons] at hn
    have h3 : ¬ b < a := by
      intro z
      rw [decide_eq_true z] at h1
      cases h1
    have h4 : a < b := tri h3 (fun e => hn.1 (by rw [e]; exact List.mem_cons_self ..))
    show (decide (a < b) && ascL (b :: r)) = true
    rw [decide_eq_true h4, asc_of b r hn.2 h2]
    rfl
theorem asc_all {ks : List (List Nat)} (hn : ks.Nodup) (h : sortedS (ks.map S) = true) : ascL ks = true := by
  cases ks with
  | nil => rfl
  | cons a r => exact asc_of a r hn h
/-! a dictionary of rows -/
def TxC (c : Ch) : Prop := (isT c.1 = true ∧ c.1.length ≤ 9999) ∧ ∀ v, c.2 = some v → isT v = true ∧ v.length ≤ 9999
def kvD (c : Ch) : Key × V := (Sum.inr (S c.1), vlV c.2)
theorem kvD_eq (c : Ch) (k : List Nat) : ((kvD c).1 = (Sum.inr (S k) : Key)) = (c.1 = k) := by
  apply propext
  constructor
  · intro h
    exact S_inj (Sum.inr.inj h)
  · intro h
    show (Sum.inr (S c.1) : Key) = _
    rw [h]
def putL (cs : List Ch) (k : List Nat) (v : Option (List Nat)) : List Ch :=
  if cs.any (fun c => decide (c.1 = k)) then cs.map (fun c => if c.1 = k then (c.1, v) else c) else cs ++ [(k, v)]
theorem put_L (cs : List Ch) (k : List Nat) (v : Option (List Nat)) : putK (cs.map kvD) (Sum.inr (S k) : Key) (vlV v) = (putL cs k v).map kvD := by
  unfold putK putL
  have e : (cs.map kvD).any (fun kv => decide (kv.1 = (Sum.inr (S k) : Key))) = cs.any (fun c => decide (c.1 = k)) := by
    rw [List.any_map]
    congr 1
    funext c
    exact decide_eq_decide.mpr (by rw [kvD_eq])
  rw [e]
  by_cases h : cs.any (fun c => decide (c.1 = k)) = true
  · rw [if_pos h, if_pos h, List.map_map, List.map_map]
    congr 1
    funext c
    show (if (kvD c).1 = (Sum.inr (S k) : Key) then ((kvD c).1, vlV v) else kvD c) = kvD (if c.1 = k then (c.1, v) else c)
    by_cases hc : c.1 = k
    · rw [if_pos hc, if_pos (by rw [kvD_eq]; exact hc)]
      rfl
    · rw [if_neg hc, if_neg (by rw [kvD_eq]; exact hc)]
  · rw [if_neg h, if_neg h, List.map_append]
    rfl
def RwOk (cs : List Ch) : Prop := (cs.map (·.1)).Nodup ∧ ∀ c ∈ cs, TxC c
theorem RwOk.nil : RwOk [] := ⟨List.nodup_nil, fun _ h => by cases h⟩
theorem putL_len (cs : List Ch) (k : List Nat) (v : Option (List Nat)) : (putL cs k v).length ≤ cs.length + 1 := by
  unfold putL
  split
  · rw [List.length_map]; omega
  · rw [List.length_append]; exact Nat.le_refl _
theorem putL_ok {cs : List Ch} {k : List Nat} {v : Option (List Nat)} (h : RwOk cs) (hk : TxC (k, v)) : RwOk (putL cs k v) := by
  unfold putL
  by_cases ha : cs.any (fun c => decide (c.1 = k)) = true
  · rw [if_pos ha]
    refine ⟨?_, fun c hc => ?_⟩
    · rw [List.map_map]
      have e : ((fun c : Ch => c.1) ∘ fun c => if c.1 = k then (c.1, v) else c) = fun c : Ch => c.1 := by
        funext c
        show (if c.1 = k then (c.1, v) else c).1 = c.1
        by_cases hc : c.1 = k
        · rw [if_pos hc]
        · rw [if_neg hc]
      rw [e]
      exact h.1
    · obtain ⟨c0, h0, e⟩ := List.mem_map.mp hc
      by_cases hck : c0.1 = k
      · rw [if_pos hck] at e
        rw [← e, hck]
        exact hk
      · rw [if_neg hck] at e
        rw [← e]
        exact h.2 c0 h0
  · rw [if_neg ha]
    have hno : k ∉ cs.map (·.1) := by
      intro z
      obtain ⟨c, hc, e⟩ := List.mem_map.mp z
      exact ha (List.any_eq_true.mpr ⟨c, hc, decide_eq_true e⟩)
    refine ⟨?_, fun c hc => ?_⟩
    · rw [List.map_append]
      refine List.nodup_append.mpr ⟨h.1, by simp, fun a ha b hb => ?_⟩
      have : b = k := List.mem_singleton.mp hb
      rintro rfl
      exact hno (this ▸ ha)
    · rcases List.mem_append.mp hc with hc | hc
      · exact h.2 c hc
      · rw [List.mem_singleton.mp hc]
        exact hk
def valL (cs : List Ch) (k : List Nat) : Option (List Nat) := match cs.find? (fun c => decide (c.1 = k)) with
  | some c => c.2
  | none => none
theorem val_L {cs : List Ch} (h : RwOk cs) {k : List Nat} (hk : k ∈ cs.map (·.1)) : valV (cs.map kvD) (Sum.inr (S k) : Key) = some (vlV (valL cs k)) ∧ TxC (k, valL cs k) := by
  obtain ⟨c, hc, e⟩ := List.mem_map.mp hk
  unfold valV valL
  rw [List.find?_map]
  have e2 : ((fun kv : Key × V => decide (kv.1 = (Sum.inr (S k) : Key))) ∘ kvD) = fun c : Ch => decide (c.1 = k) := by
    funext c
    exact decide_eq_decide.mpr (by rw [kvD_eq])
  rw [e2]
  cases hf : cs.find? (fun c => decide (c.1 = k)) with
  | none =>
    have := List.find?_eq_none.mp hf c hc
    exact absurd (decide_eq_true e) this
  | some d =>
    have h1 : d ∈ cs := List.mem_of_find?_eq_some hf
    have h2' := List.find?_some hf
    have h2 : d.1 = k := of_decide_eq_true h2'
    refine ⟨rfl, ?_⟩
    have := h.2 d h1
    rw [← h2]
    exact this
def GoodC (cs : List Ch) : Prop := isChsD (chsD cs) = true ∧ ∀ c ∈ cs, TxC c
theorem isChg_of {c : Ch} (h : TxC c) : isChgD (chD c) = true := by
  obtain ⟨k, o⟩ := c
  obtain ⟨⟨h1, _⟩, h2⟩ := h
  cases o with
  | none =>
    show (isT k && (true || false)) = true
    rw [show isT k = true from h1]
    rfl
  | some v =>
    show (isT k && (false || isT v)) = true
    rw [show isT k = true from h1, show isT v = true from (h2 v rfl).1]
    rfl
theorem isChs_eq (cs : List Ch) : isChsD (chsD cs) = (cs.all (fun c => isChgD (chD c)) && ascL (cs.map (·.1))) := by
  show ((cs.map chD).all isChgD && ascL ((cs.map chD).map keyD)) = _
  rw [List.all_map, List.map_map]
  rfl
theorem good_of {cs : List Ch} (h1 : ascL (cs.map (·.1)) = true) (h2 : ∀ c ∈ cs, TxC c) : GoodC cs := by
  refine ⟨?_, h2⟩
  rw [isChs_eq, h1, Bool.and_true, List.all_eq_true]
  exact fun c hc => isChg_of (h2 c hc)
theorem good_rows {cs : List Ch} (h : RwOk cs) {ks : List (List Nat)} (hp : ks.Perm (cs.map (·.1))) (hs : sortedS (ks.map S) = true) : GoodC (ks.map fun k => (k, valL cs k)) := by
  refine good_of ?_ ?_
  · rw [List.map_map]
    have e : ((fun c : Ch => c.1) ∘ fun k => (k, valL cs k)) = id := rfl
    rw [e, List.map_id]
    exact asc_all (hp.nodup_iff.mpr h.1) hs
  · intro c hc
    obtain ⟨k, hk, e⟩ := List.mem_map.mp hc
    rw [← e]
    exact (val_L h (hp.mem_iff.mp hk)).2
end
end My

set_option Elab.async false
set_option linter.all false
set_option maxRecDepth 100000
set_option maxHeartbeats 1000000
namespace My
open PySem PySem.Spec PyProof.Rows L2
local macro_rules | `(tactic| walk_at "len") => `(tactic| first | assumption | omega | decide | (simp only [List.length_append, List.length_take, List.length_drop, List.length_cons, List.length_nil, List.length_replicate]; omega))
local macro_rules | `(tactic| walk_at "side") => `(tactic| first | assumption | exact Nat.zero_le _ | decide | omega)
local macro_rules | `(tactic| walk_at "rd1") => `(tactic| first
  | with_reducible refine s_seq ?_
  | with_reducible refine x_gsub ?_
  | with_reducible refine s_asg ?_
  | ((with_reducible refine s_gn ?_); dsimp only [List.set])
  | ((with_reducible refine x_var (v := ?rdv) ?rdhv ?_); (case rdhv => rfl))
  | with_reducible refine x_c ?_
  | with_reducible refine x_op ?_
  | with_reducible refine x_cons ?_
  | with_reducible refine x_nil ?_
  | with_reducible refine x_cb ?_
  | with_reducible refine x_call ?_
  | with_reducible refine x_callS ?_
  | with_reducible refine x_revT ?_
  | with_reducible refine x_dget ?_
  | with_reducible refine x_din ?_
  | with_reducible refine x_dnotin ?_
  | with_reducible refine s_dput ?_
  | with_reducible refine x_dnew ?_
  | with_reducible refine s_try ?_
  | with_reducible refine s_raise ?_
  | with_reducible refine s_if ?_
  | with_reducible refine s_ret ?_
  | with_reducible refine s_retN ?_
  | with_reducible refine s_next ?_
  | with_reducible refine s_brk ?_
  | with_reducible refine s_cont ?_
  | with_reducible refine s_drop ?_
  | with_reducible refine s_par ?_
  | with_reducible refine s_par3 ?_
  | ((with_reducible refine s_p2 ?_); dsimp only [List.set])
  | ((with_reducible refine s_p3 ?_); dsimp only [List.set])
  | with_reducible refine f_r1 ?_
  | with_reducible refine f_r2 ?_
  | with_reducible refine f_l ?_
  | with_reducible refine f_t ?_
  | with_reducible refine f_s ?_
  | with_reducible refine c_r1 ?_
  | with_reducible refine c_r2 ?_
  | with_reducible refine c_l ?_
  | with_reducible refine c_t ?_
  | with_reducible refine c_s ?_
  | with_reducible refine x_tst ?_
  | with_reducible refine x_tru ?_
  | with_reducible refine x_truB ?_
  | with_reducible refine x_bl2 ?_
  | with_reducible refine x_int ?_
  | with_reducible refine x_str ?_
  | with_reducible refine x_not ?_
  | with_reducible refine x_and ?_
  | with_reducible refine x_or ?_
  | with_reducible refine x_andV ?_
  | with_reducible refine x_orV ?_
  | with_reducible refine x_notV ?_
  | with_reducible refine x_if ?_
  | with_reducible refine x_yes ?_
  | with_reducible refine x_un ?_
  | with_reducible refine x_tup ?_
  | with_reducible refine x_lst ?_
  | with_reducible refine x_callK ?_
  | with_reducible refine x_callK0 ?_
  | with_reducible refine x_bm ?_
  | with_reducible refine x_bm0 ?_
  | with_reducible refine x_tyS ?_
  | with_reducible refine x_sl ?_
  | with_reducible refine x_nopart ?_
  | with_reducible refine x_part ?_
  | with_reducible refine x_fmt0 ?_
  | with_reducible refine x_gc ?_
  | with_reducible refine x_gz ?_
  | with_reducible refine x_ckw ?_
  | with_reducible refine x_fmt ?_
  | with_reducible refine x_chain ?_
  | with_reducible refine a_ii ?_
  | ((with_reducible refine sl_to ?rda ?rdb ?_); (case rda => walk_at "len"); (case rdb => walk_at "len"))
  | ((with_reducible refine sl_from ?rda ?rdb ?_); (case rda => walk_at "len"); (case rdb => walk_at "len"))
  | ((with_reducible refine sl_mid ?rda ?rdb ?rdc ?_); (case rda => walk_at "len"); (case rdb => walk_at "len"); (case rdc => walk_at "len"))
  | ((with_reducible refine a_SS ?rda ?_); (case rda => walk_at "len"))
  | ((with_reducible refine ln_S ?rda ?_); (case rda => walk_at "len"))
  | with_reducible refine e_SS ?_
  | with_reducible refine ne_SS ?_
  | with_reducible refine s_ii ?_
  | ((with_reducible refine md_ii ?rdc ?_); (case rdc => first | decide | assumption | omega))
  | with_reducible refine n_i ?_
  | with_reducible refine e_ii ?_
  | with_reducible refine e_bb ?_
  | with_reducible refine ne_ii ?_
  | with_reducible refine ne_bb ?_
  | with_reducible refine lt_ii ?_
  | with_reducible refine lt_ss ?_
  | with_reducible refine le_ii ?_
  | with_reducible refine le_ss ?_
  | with_reducible refine gt_ii ?_
  | with_reducible refine gt_ss ?_
  | with_reducible refine ge_ii ?_
  | with_reducible refine e_ss ?_
  | with_reducible refine ne_ss ?_
  | with_reducible refine is_N ?_
  | with_reducible refine is_T ?_
  | with_reducible refine is_B ?_
  | with_reducible refine isn_N ?_
  | with_reducible refine isn_T ?_
  | with_reducible refine isn_B ?_
  | with_reducible refine in_s ?_
  | with_reducible refine nin_s ?_
  | with_reducible refine i_i ?_
  | with_reducible refine i_b ?_
  | with_reducible refine ab_i ?_
  | with_reducible refine mx_ii ?_
  | with_reducible refine mn_ii ?_
  | with_reducible refine ty_N ?_
  | with_reducible refine ty_B ?_
  | with_reducible refine ty_I ?_
  | with_reducible refine ty_S ?_
  | with_reducible refine ma_s ?_
  | with_reducible refine mp_s ?_
  | with_reducible refine mdg_s ?_
  | with_reducible refine mf_s ?_
  | with_reducible refine iteT ?_
  | with_reducible refine iteF ?_
  | with_reducible refine iteNt ?_
  | with_reducible refine iteNf ?_
  | with_reducible refine iteTd (by decide) ?_
  | with_reducible refine iteFd (by decide) ?_
  | with_reducible refine iteNd (by decide) ?_
  | with_reducible refine iteNdF (by decide) ?_
  | ((with_reducible refine iteFd ?rdn ?_); (case rdn => (intro rdz; cases rdz; done)))
  | ((with_reducible refine iteNdF ?rdn ?_); (case rdn => (intro rdz; cases rdz; done))))
local macro_rules | `(tactic| walk_at "rd") => `(tactic| (repeat walk_at "rd1"))
section
variable {P : Program} {w : World} {K : PySem.W.Frag} {mg : Str → Option Value} {base : Heap}
theorem at_last {α : Type} {xs : List α} {n : Nat} {v : α} (hl : xs.length = n + 1) (h : xs[n]? = some v) : atI xs (-1) = some v := by
  unfold atI ixN
  rw [hl, if_neg (by decide), if_pos (by omega)]
  show xs[((-1 : Int) + ((n + 1 : Nat) : Int)).toNat]? = some v
  rw [show ((-1 : Int) + ((n + 1 : Nat) : Int)).toNat = n by omega]
  exact h
theorem asc_iff (ks : List (List Nat)) : ascL ks = true ↔ ∀ i a b, ks[i]? = some a → ks[i + 1]? = some b → a < b := by
  unfold ascL
  rw [List.all_eq_true]
  constructor
  · intro h i a b h1 h2
    have := h _ (List.mem_of_getElem? (zip_at h1 h2))
    exact of_decide_eq_true this
  · intro h x hx
    obtain ⟨i, hi⟩ := List.mem_iff_getElem?.mp hx
    have hlt := (List.getElem?_eq_some_iff.mp hi).1
    rw [zip_len] at hlt
    have h1 := List.getElem?_eq_getElem (l := ks) (i := i) (by omega)
    have h2 := List.getElem?_eq_getElem (l := ks) (i := i + 1) (by omega)
    have h3 := zip_at h1 h2
    rw [hi] at h3
    rw [Option.some.inj h3]
    exact decide_eq_true (h i _ _ h1 h2)
theorem asc_snoc1 {ks : List (List Nat)} {n : Nat} {a k : List Nat} (h : ascL ks = true) (hl : ks.length = n + 1) (ha : ks[n]? = some a) (hk : a < k) : ascL (ks ++ [k]) = true := by
  rw [asc_iff] at h ⊢
  intro i x y hx hy
  have hi := (List.getElem?_eq_some_iff.mp hy).1
  rw [List.length_append, List.length_singleton] at hi
  by_cases h1 : i + 1 < ks.length
  · rw [List.getElem?_append_left (by omega)] at hx
    rw [List.getElem?_append_left h1] at hy
    exact h i x y hx hy
  · have hin : i = n := by omega
    subst hin
    rw [List.getElem?_append_left (by omega), ha] at hx
    rw [List.getElem?_append_right (by omega), hl, Nat.sub_self] at hy
    cases hx
    cases hy
    exact hk
theorem asc_bad {ks r : List (List Nat)} {n : Nat} {a k : List Nat} (hl : ks.length = n + 1) (ha : ks[n]? = some a) (hk : ¬ a < k) : ascL (ks ++ k :: r) = false := by
  cases hx : ascL (ks ++ k :: r) with
  | false => rfl
  | true =>
    rw [asc_iff] at hx
    refine absurd (hx n a k ?_ ?_) hk
    · rw [List.getElem?_append_left (by omega)]
      exact ha
    · rw [List.getElem?_append_right (by omega), hl, Nat.sub_self]
      rfl
def ShT (c : Ch) : Prop := isT c.1 = true ∧ ∀ v, c.2 = some v → isT v = true
theorem canLay_str {l : List Nat} (h : isT l = true) : PyData.strOk (S l) = true := by
  unfold PyData.strOk
  rw [← Array.all_toList, S_cps, List.all_eq_true]
  intro c hc
  have := isT_mem h hc
  exact decide_eq_true (by omega)
theorem shaped_chs (cs : List Ch) (h : ∀ c ∈ cs, ShT c) : SeqAt.shaped (.list (cs.map chD)) = true := by
  have h1 : PyData.canLayAll0 (cs.map chD) = true := by
    induction cs with
    | nil => rfl
    | cons c cs ih =>
      have hc := h c (List.mem_cons_self ..)
      have ih' := ih fun d hd => h d (List.mem_cons_of_mem _ hd)
      obtain ⟨k, o⟩ := c
      have hk := canLay_str hc.1
      cases o with
      | none => simp [chD, vlD, PyData.canLayAll0, PyData.canLay0, ih', hk]
      | some v =>
        have hv := canLay_str (hc.2 v rfl)
        simp [chD, vlD, PyData.canLayAll0, PyData.canLay0, ih', hk, hv]
  have h2 : PyData.depthAll (cs.map chD) ≤ 3 := by
    clear h1 h
    induction cs with
    | nil => simp [PyData.depthAll]
    | cons c cs ih =>
      obtain ⟨k, o⟩ := c
      cases o <;> simp only [List.map_cons, PyData.depthAll, PyData.depth, chD, vlD] at * <;> omega
  unfold SeqAt.shaped
  rw [Bool.and_eq_true]
  refine ⟨h1, decide_eq_true ?_⟩
  simp only [PyData.depth]
  omega
theorem eqv_chs (cs : List Ch) : PyData.eqv (.list (cs.map chD)) (.list []) = decide (cs = []) := by
  cases cs with
  | nil => rfl
  | cons n ns =>
    rw [decide_eq_false (by intro h; cases h)]
    rfl
end
end My

set_option Elab.async false
set_option linter.all false
set_option maxRecDepth 100000
set_option maxHeartbeats 1000000
namespace My
open PySem PySem.Spec PyProof.Rows L2
local macro_rules | `(tactic| walk_at "len") => `(tactic| first | assumption | omega | decide | (simp only [List.length_append, List.length_take, List.length_drop, List.length_cons, List.length_nil, List.length_replicate]; omega))
local macro_rules | `(tactic| walk_at "side") => `(tactic| first | assumption | exact Nat.zero_le _ | decide | omega)
local macro_rules | `(tactic| walk_at "rd1") => `(tactic| first
  | with_reducible refine s_seq ?_
  | with_reducible refine x_gsub ?_
  | with_reducible refine s_asg ?_
  | ((with_reducible refine s_gn ?_); dsimp only [List.set])
  | ((with_reducible refine x_var (v := ?rdv) ?rdhv ?_); (case rdhv => rfl))
  | with_reducible refine x_c ?_
  | with_reducible refine x_op ?_
  | with_reducible refine x_cons ?_
  | with_reducible refine x_nil ?_
  | with_reducible refine x_cb ?_
  | with_reducible refine x_call ?_
  | with_reducible refine x_callS ?_
  | with_reducible refine x_revT ?_
  | with_reducible refine x_dget ?_
  | with_reducible refine x_din ?_
  | with_reducible refine x_dnotin ?_
  | with_reducible refine s_dput ?_
  | with_reducible refine x_dnew ?_
  | with_reducible refine s_try ?_
  | with_reducible refine s_raise ?_
  | with_reducible refine s_if ?_
  | with_reducible refine s_ret ?_
  | with_reducible refine s_retN ?_
  | with_reducible refine s_next ?_
  | with_reducible refine s_brk ?_
  | with_reducible refine s_cont ?_
  | with_reducible refine s_drop ?_
  | with_reducible refine s_par ?_
  | with_reducible refine s_par3 ?_
  | ((with_reducible refine s_p2 ?_); dsimp only [List.set])
  | ((with_reducible refine s_p3 ?_); dsimp only [List.set])
  | with_reducible refine f_r1 ?_
  | with_reducible refine f_r2 ?_
  | with_reducible refine f_l ?_
  | with_reducible refine f_t ?_
  | with_reducible refine f_s ?_
  | with_reducible refine c_r1 ?_
  | with_reducible refine c_r2 ?_
  | with_reducible refine c_l ?_
  | with_reducible refine c_t ?_
  | with_reducible refine c_s ?_
  | with_reducible refine x_tst ?_
  | with_reducible refine x_tru ?_
  | with_reducible refine x_truB ?_
  | with_reducible refine x_bl2 ?_
  | with_reducible refine x_int ?_
  | with_reducible refine x_str ?_
  | with_reducible refine x_not ?_
  | with_reducible refine x_and ?_
  | with_reducible refine x_or ?_
  | with_reducible refine x_andV ?_
  | with_reducible refine x_orV ?_
  | with_reducible refine x_notV ?_
  | with_reducible refine x_if ?_
  | with_reducible refine x_yes ?_
  | with_reducible refine x_un ?_
  | with_reducible refine x_tup ?_
  | with_reducible refine x_lst ?_
  | with_reducible refine x_callK ?_
  | with_reducible refine x_callK0 ?_
  | with_reducible refine x_bm ?_
  | with_reducible refine x_bm0 ?_
  | with_reducible refine x_tyS ?_
  | with_reducible refine x_sl ?_
  | with_reducible refine x_nopart ?_
  | with_reducible refine x_part ?_
  | with_reducible refine x_fmt0 ?_
  | with_reducible refine x_gc ?_
  | with_reducible refine x_gz ?_
  | with_reducible refine x_ckw ?_
  | with_reducible refine x_fmt ?_
  | with_reducible refine x_chain ?_
  | with_reducible refine a_ii ?_
  | ((with_reducible refine sl_to ?rda ?rdb ?_); (case rda => walk_at "len"); (case rdb => walk_at "len"))
  | ((with_reducible refine sl_from ?rda ?rdb ?_); (case rda => walk_at "len"); (case rdb => walk_at "len"))
  | ((with_reducible refine sl_mid ?rda ?rdb ?rdc ?_); (case rda => walk_at "len"); (case rdb => walk_at "len"); (case rdc => walk_at "len"))
  | ((with_reducible refine a_SS ?rda ?_); (case rda => walk_at "len"))
  | ((with_reducible refine ln_S ?rda ?_); (case rda => walk_at "len"))
  | with_reducible refine e_SS ?_
  | with_reducible refine ne_SS ?_
  | with_reducible refine s_ii ?_
  | ((with_reducible refine md_ii ?rdc ?_); (case rdc => first | decide | assumption | omega))
  | with_reducible refine n_i ?_
  | with_reducible refine e_ii ?_
  | with_reducible refine e_bb ?_
  | with_reducible refine ne_ii ?_
  | with_reducible refine ne_bb ?_
  | with_reducible refine lt_ii ?_
  | with_reducible refine lt_ss ?_
  | with_reducible refine le_ii ?_
  | with_reducible refine le_ss ?_
  | with_reducible refine gt_ii ?_
  | with_reducible refine gt_ss ?_
  | with_reducible refine ge_ii ?_
  | with_reducible refine e_ss ?_
  | with_reducible refine ne_ss ?_
  | with_reducible refine is_N ?_
  | with_reducible refine is_T ?_
  | with_reducible refine is_B ?_
  | with_reducible refine isn_N ?_
  | with_reducible refine isn_T ?_
  | with_reducible refine isn_B ?_
  | with_reducible refine in_s ?_
  | with_reducible refine nin_s ?_
  | with_reducible refine i_i ?_
  | with_reducible refine i_b ?_
  | with_reducible refine ab_i ?_
  | with_reducible refine mx_ii ?_
  | with_reducible refine mn_ii ?_
  | with_reducible refine ty_N ?_
  | with_reducible refine ty_B ?_
  | with_reducible refine ty_I ?_
  | with_reducible refine ty_S ?_
  | with_reducible refine ma_s ?_
  | with_reducible refine mp_s ?_
  | with_reducible refine mdg_s ?_
  | with_reducible refine mf_s ?_
  | with_reducible refine iteT ?_
  | with_reducible refine iteF ?_
  | with_reducible refine iteNt ?_
  | with_reducible refine iteNf ?_
  | with_reducible refine iteTd (by decide) ?_
  | with_reducible refine iteFd (by decide) ?_
  | with_reducible refine iteNd (by decide) ?_
  | with_reducible refine iteNdF (by decide) ?_
  | ((with_reducible refine iteFd ?rdn ?_); (case rdn => (intro rdz; cases rdz; done)))
  | ((with_reducible refine iteNdF ?rdn ?_); (case rdn => (intro rdz; cases rdz; done))))
local macro_rules | `(tactic| walk_at "rd") => `(tactic| (repeat walk_at "rd1"))
section
variable {P : Program} {w : World} {K : PySem.W.Frag} {mg : Str → Option Value} {base : Heap}
def sp_check_text (x : Addr) (K : PySem.W.Frag) : Sp := fun vs H Q E => ∃ (v : V) (d : PyData), vs = [v] ∧ Dp K H v d ∧ (isTxD d = true → Q .non H) ∧ (isTxD d = false → E (.ref x) none H)
theorem ok_check_text (Y : Fx K mg) : FnOk P w K mg base (L2.CX P w) 2 Y.a_check_text Y.fd_check_text ["text"] (sp_check_text Y.x_InvalidText K) := by
  refine Y.F_check_text.okX sc_check_text (fun vs H Q E h => ?_) (fun cdv A outer s H vs Q E hr h => ?_)
  · obtain ⟨v, d, rfl, _⟩ := h
    rfl
  · obtain ⟨v, d, rfl, hv, q, e⟩ := h
    refine ⟨_, b_check_text Y (ok_is_text Y) hr, ?_⟩
    show t_check_text K Y E _ _ [some v] H
    unfold t_check_text
    walk_at "rd"
    refine ⟨v, d, rfl, hv, ?_⟩
    walk_at "rd"
    cases ht : isTxD d with
    | false =>
      walk_at "rd"
      exact e ht
    | true =>
      refine iteNt ?_
      exact q ht
theorem chsR_len {l : List Nat} : ∀ (n a : Nat) (cs : List Ch), chsR l n a = some cs → cs.length ≤ n
  | 0, a, cs, h => by cases h; exact Nat.le_refl _
  | n + 1, a, cs, h => by
    rw [chsR] at h
    by_cases ha : a < l.length
    · rw [if_pos ha] at h
      cases hc : chgR l a with
      | none => rw [hc] at h; cases h
      | some r =>
        rw [hc] at h
        have h' : (chsR l n r.2).map (r.1 :: ·) = some cs := h
        cases h2 : chsR l n r.2 with
        | none => rw [h2] at h'; cases h'
        | some r2 =>
          rw [h2] at h'
          cases h'
          exact Nat.succ_le_succ (chsR_len n _ _ h2)
    · rw [if_neg ha] at h
      cases h
      exact Nat.zero_le _
theorem cut_sh (A B : List Nat) (a k : Nat) : ((A ++ B).take (A.length + a + k)).drop (A.length + a) = (B.take (a + k)).drop a := by
  rw [Nat.add_assoc, List.take_length_add_append, List.drop_length_add_append]
theorem numAt_sh (A B : List Nat) (a k : Nat) : numAt (A ++ B) (A.length + a) k = numAt B a k := by
  unfold numAt
  rw [cut_sh]
theorem cutL_sh (A B : List Nat) (a b : Nat) : cutL (A ++ B) (A.length + a) (A.length + b) = cutL B a b := by
  unfold cutL
  rw [List.take_length_add_append, List.drop_length_add_append]
theorem partR_sh (A B : List Nat) (a : Nat) : partR (A ++ B) (A.length + a) = (partR B a).map fun r => (r.1, A.length + r.2) := by
  unfold partR
  rw [numAt_sh]
  cases numAt B a 4 with
  | none => rfl
  | some n =>
    show (if (A ++ B).length < A.length + a + 4 + n then none else some (cutL (A ++ B) (A.length + a + 4) (A.length + a + 4 + n), A.length + a + 4 + n)) = Option.map _ (if B.length < a + 4 + n then none else some (cutL B (a + 4) (a + 4 + n), a + 4 + n))
    rw [List.length_append, show A.length + a + 4 = A.length + (a + 4) by omega, show A.length + (a + 4) + n = A.length + (a + 4 + n) by omega, cutL_sh]
    by_cases h : B.length < a + 4 + n
    · rw [if_pos h, if_pos (by omega)]; rfl
    · rw [if_neg h, if_neg (by omega)]; rfl
theorem get_sh (A B : List Nat) (a : Nat) : (A ++ B)[A.length + a]? = B[a]? := by
  rw [List.getElem?_append_right (by omega), Nat.add_sub_cancel_left]
theorem chgR_sh (A B : List Nat) (a : Nat) : chgR (A ++ B) (A.length + a) = (chgR B a).map fun r => (r.1, A.length + r.2) := by
  unfold chgR
  rw [show A.length + a + 1 = A.length + (a + 1) by omega, partR_sh, get_sh]
  cases partR B (a + 1) with
  | none => rfl
  | some r =>
    show (if B[a]? = some 45 then some (((r.1, none) : Ch), A.length + r.2) else match partR (A ++ B) (A.length + r.2) with
      | none => none
      | some r2 => if B[a]? = some 43 then some ((r.1, some r2.1), r2.2) else none) = Option.map _ (if B[a]? = some 45 then some (((r.1, none) : Ch), r.2) else match partR B r.2 with
      | none => none
      | some r2 => if B[a]? = some 43 then some ((r.1, some r2.1), r2.2) else none)
    by_cases h1 : B[a]? = some 45
    · rw [if_pos h1, if_pos h1]; rfl
    · rw [if_neg h1, if_neg h1, partR_sh]
      cases partR B r.2 with
      | none => rfl
      | some r2 =>
        show (if B[a]? = some 43 then some (((r.1, some r2.1) : Ch), A.length + r2.2) else none) = Option.map _ (if B[a]? = some 43 then some (((r.1, some r2.1) : Ch), r2.2) else none)
        by_cases h2 : B[a]? = some 43
        · rw [if_pos h2, if_pos h2]; rfl
        · rw [if_neg h2, if_neg h2]; rfl
theorem chsR_sh (A B : List Nat) : ∀ (n a : Nat), chsR (A ++ B) n (A.length + a) = chsR B n a
  | 0, a => rfl
  | n + 1, a => by
    rw [chsR, chsR, chgR_sh]
    by_cases h : a < B.length
    · rw [if_pos h, if_pos (by rw [List.length_append]; omega)]
      cases chgR B a with
      | none => rfl
      | some r =>
        show (chsR (A ++ B) n (A.length + r.2)).map (r.1 :: ·) = (chsR B n r.2).map (r.1 :: ·)
        rw [chsR_sh A B n r.2]
    · rw [if_neg h, if_neg (by rw [List.length_append]; omega)]
theorem chsR_fu {l : List Nat} : ∀ (n m a : Nat), l.length - a ≤ n → l.length - a ≤ m → chsR l n a = chsR l m a
  | 0, m, a, h, _ => by rw [chsR_end (n := 0) (by omega), chsR_end (n := m) (by omega)]
  | n + 1, 0, a, _, h => by rw [chsR_end (n := n + 1) (by omega), chsR_end (n := 0) (by omega)]
  | n + 1, m + 1, a, h1, h2 => by
    rw [chsR, chsR]
    by_cases h : a < l.length
    · rw [if_pos h, if_pos h]
      cases hc : chgR l a with
      | none => rfl
      | some r =>
        have := chgR_lt hc
        show (chsR l n r.2).map (r.1 :: ·) = (chsR l m r.2).map (r.1 :: ·)
        rw [chsR_fu n m r.2 (by omega) (by omega)]
    · rw [if_neg h, if_neg h]
theorem isChs_sh {cs : List Ch} (h : ∀ c ∈ cs, ShT c) : isChsD (chsD cs) = ascL (cs.map (·.1)) := by
  rw [isChs_eq, show cs.all (fun c => isChgD (chD c)) = true from List.all_eq_true.mpr fun c hc => ?_, Bool.true_and]
  obtain ⟨k, o⟩ := c
  obtain ⟨h1, h2⟩ := h _ hc
  cases o with
  | none =>
    show (isT k && (true || false)) = true
    rw [show isT k = true from h1]
    rfl
  | some v =>
    show (isT k && (false || isT v)) = true
    rw [show isT k = true from h1, show isT v = true from h2 v rfl]
    rfl
end
end My

set_option Elab.async false
set_option linter.all false
set_option maxRecDepth 100000
set_option maxHeartbeats 1000000
namespace My
open PySem PySem.Spec PyProof.Rows L2
local macro_rules | `(tactic| walk_at "len") => `(tactic| first | assumption | omega | decide | (simp only [List.length_append, List.length_take, List.length_drop, List.length_cons, List.length_nil, List.length_replicate]; omega))
local macro_rules | `(tactic| walk_at "side") => `(tactic| first | assumption | exact Nat.zero_le _ | decide | omega)
local macro_rules | `(tactic| walk_at "rd1") => `(tactic| first
  | with_reducible refine s_seq ?_
  | with_reducible refine x_gsub ?_
  | with_reducible refine s_asg ?_
  | ((with_reducible refine s_gn ?_); dsimp only [List.set])
  | ((with_reducible refine x_var (v := ?rdv) ?rdhv ?_); (case rdhv => rfl))
  | with_reducible refine x_c ?_
  | with_reducible refine x_op ?_
  | with_reducible refine x_cons ?_
  | with_reducible refine x_nil ?_
  | with_reducible refine x_cb ?_
  | with_reducible refine x_call ?_
  | with_reducible refine x_callS ?_
  | with_reducible refine x_revT ?_
  | with_reducible refine x_dget ?_
  | with_reducible refine x_din ?_
  | with_reducible refine x_dnotin ?_
  | with_reducible refine s_dput ?_
  | with_reducible refine x_dnew ?_
  | with_reducible refine s_try ?_
  | with_reducible refine s_raise ?_
  | with_reducible refine s_if ?_
  | with_reducible refine s_ret ?_
  | with_reducible refine s_retN ?_
  | with_reducible refine s_next ?_
  | with_reducible refine s_brk ?_
  | with_reducible refine s_cont ?_
  | with_reducible refine s_drop ?_
  | with_reducible refine s_par ?_
  | with_reducible refine s_par3 ?_
  | ((with_reducible refine s_p2 ?_); dsimp only [List.set])
  | ((with_reducible refine s_p3 ?_); dsimp only [List.set])
  | with_reducible refine f_r1 ?_
  | with_reducible refine f_r2 ?_
  | with_reducible refine f_l ?_
  | with_reducible refine f_t ?_
  | with_reducible refine f_s ?_
  | with_reducible refine c_r1 ?_
  | with_reducible refine c_r2 ?_
  | with_reducible refine c_l ?_
  | with_reducible refine c_t ?_
  | with_reducible refine c_s ?_
  | with_reducible refine x_tst ?_
  | with_reducible refine x_tru ?_
  | with_reducible refine x_truB ?_
  | with_reducible refine x_bl2 ?_
  | with_reducible refine x_int ?_
  | with_reducible refine x_str ?_
  | with_reducible refine x_not ?_
  | with_reducible refine x_and ?_
  | with_reducible refine x_or ?_
  | with_reducible refine x_andV ?_
  | with_reducible refine x_orV ?_
  | with_reducible refine x_notV ?_
  | with_reducible refine x_if ?_
  | with_reducible refine x_yes ?_
  | with_reducible refine x_un ?_
  | with_reducible refine x_tup ?_
  | with_reducible refine x_lst ?_
  | with_reducible refine x_callK ?_
  | with_reducible refine x_callK0 ?_
  | with_reducible refine x_bm ?_
  | with_reducible refine x_bm0 ?_
  | with_reducible refine x_tyS ?_
  | with_reducible refine x_sl ?_
  | with_reducible refine x_nopart ?_
  | with_reducible refine x_part ?_
  | with_reducible refine x_fmt0 ?_
  | with_reducible refine x_gc ?_
  | with_reducible refine x_gz ?_
  | with_reducible refine x_ckw ?_
  | with_reducible refine x_fmt ?_
  | with_reducible refine x_chain ?_
  | with_reducible refine a_ii ?_
  | ((with_reducible refine sl_to ?rda ?rdb ?_); (case rda => walk_at "len"); (case rdb => walk_at "len"))
  | ((with_reducible refine sl_from ?rda ?rdb ?_); (case rda => walk_at "len"); (case rdb => walk_at "len"))
  | ((with_reducible refine sl_mid ?rda ?rdb ?rdc ?_); (case rda => walk_at "len"); (case rdb => walk_at "len"); (case rdc => walk_at "len"))
  | ((with_reducible refine a_SS ?rda ?_); (case rda => walk_at "len"))
  | ((with_reducible refine ln_S ?rda ?_); (case rda => walk_at "len"))
  | with_reducible refine e_SS ?_
  | with_reducible refine ne_SS ?_
  | with_reducible refine s_ii ?_
  | ((with_reducible refine md_ii ?rdc ?_); (case rdc => first | decide | assumption | omega))
  | with_reducible refine n_i ?_
  | with_reducible refine e_ii ?_
  | with_reducible refine e_bb ?_
  | with_reducible refine ne_ii ?_
  | with_reducible refine ne_bb ?_
  | with_reducible refine lt_ii ?_
  | with_reducible refine lt_ss ?_
  | with_reducible refine le_ii ?_
  | with_reducible refine le_ss ?_
  | with_reducible refine gt_ii ?_
  | with_reducible refine gt_ss ?_
  | with_reducible refine ge_ii ?_
  | with_reducible refine e_ss ?_
  | with_reducible refine ne_ss ?_
  | with_reducible refine is_N ?_
  | with_reducible refine is_T ?_
  | with_reducible refine is_B ?_
  | with_reducible refine isn_N ?_
  | with_reducible refine isn_T ?_
  | with_reducible refine isn_B ?_
  | with_reducible refine in_s ?_
  | with_reducible refine nin_s ?_
  | with_reducible refine i_i ?_
  | with_reducible refine i_b ?_
  | with_reducible refine ab_i ?_
  | with_reducible refine mx_ii ?_
  | with_reducible refine mn_ii ?_
  | with_reducible refine ty_N ?_
  | with_reducible refine ty_B ?_
  | with_reducible refine ty_I ?_
  | with_reducible refine ty_S ?_
  | with_reducible refine ma_s ?_
  | with_reducible refine mp_s ?_
  | with_reducible refine mdg_s ?_
  | with_reducible refine mf_s ?_
  | with_reducible refine iteT ?_
  | with_reducible refine iteF ?_
  | with_reducible refine iteNt ?_
  | with_reducible refine iteNf ?_
  | with_reducible refine iteTd (by decide) ?_
  | with_reducible refine iteFd (by decide) ?_
  | with_reducible refine iteNd (by decide) ?_
  | with_reducible refine iteNdF (by decide) ?_
  | ((with_reducible refine iteFd ?rdn ?_); (case rdn => (intro rdz; cases rdz; done)))
  | ((with_reducible refine iteNdF ?rdn ?_); (case rdn => (intro rdz; cases rdz; done))))
local macro_rules | `(tactic| walk_at "rd") => `(tactic| (repeat walk_at "rd1"))
section
variable {P : Program} {w : World} {K : PySem.W.Frag} {mg : Str → Option Value} {base : Heap}
/-! records written -/
def chT : Ch → List Nat
  | (k, none) => [45] ++ pad 4 k.length ++ k
  | (k, some v) => [43] ++ pad 4 k.length ++ k ++ pad 4 v.length ++ v
def LgC (c : Ch) : Prop := (isT c.1 = true ∧ c.1.length ≤ 9999) ∧ ∀ v, c.2 = some v → isT v = true ∧ v.length ≤ 9999
def recT (kd : List Nat) (cs ms : List Ch) : List Nat := kd ++ pad 4 cs.length ++ ((cs ++ ms).map chT).flatten
theorem chT_le {c : Ch} (h : LgC c) : (chT c).length ≤ 20100 := by
  obtain ⟨k, o⟩ := c
  obtain ⟨⟨_, h1⟩, h2⟩ := h
  have h1' : k.length ≤ 9999 := h1
  have p1 := pad_le (w := 4) (n := k.length) (by omega)
  cases o with
  | none =>
    show ([45] ++ pad 4 k.length ++ k).length ≤ 20100
    simp only [List.length_append, List.length_singleton]
    omega
  | some v =>
    have h3 := (h2 v rfl).2
    have p2 := pad_le (w := 4) (n := v.length) (by omega)
    show ([43] ++ pad 4 k.length ++ k ++ pad 4 v.length ++ v).length ≤ 20100
    simp only [List.length_append, List.length_singleton]
    omega
section
variable {σ : L2.St} {H : Hp} {Q : Str → Hp → Prop} {ts : List TE} {acc m l : List Nat} {i w n : Nat}
theorem j_0 (q : Q (S acc) H) : tJs [] (S acc) σ H Q := q
theorem j_c (hl : acc.length + m.length ≤ 1000000) (h : tJs ts (S (acc ++ m)) σ H Q) : tJs (tC (.str (S m)) :: ts) (S acc) σ H Q := ⟨S m, rfl, by rw [S_app, S_len, List.length_append]; exact big_line hl, by rw [S_app]; exact h⟩
theorem j_v (hi : σ[i]? = some (some (.str (S l)))) (hl : acc.length + l.length ≤ 1000000) (h : tJs ts (S (acc ++ l)) σ H Q) : tJs (tFmt (tVar i) :: ts) (S acc) σ H Q := by
  refine x_js ?_
  refine x_fmt ?_
  refine x_var hi ?_
  refine .inl ⟨_, rfl, by rw [S_len]; exact big_line (by omega), ?_⟩
  exact ⟨S l, rfl, by rw [S_app, S_len, List.length_append]; exact big_line hl, by rw [S_app]; exact h⟩
theorem j_n (hi : σ[i]? = some (some (.int n))) (hn : n < 100000000) (hl : acc.length ≤ 900000) (hw : w ≤ 100) (h : tJs ts (S (acc ++ pad w n)) σ H Q) : tJs (tFmt0 w (tVar i) :: ts) (S acc) σ H Q := by
  refine x_js ?_
  refine x_fmt0 ?_
  refine x_var hi ?_
  have hlog : ((n : Int).natAbs).log2 < 1920 := by
    rw [Int.natAbs_natCast]
    by_cases h0 : n = 0
    · subst h0; decide
    · exact Nat.lt_of_lt_of_le ((Nat.log2_lt h0).mpr (show n < 2 ^ 27 by omega)) (by decide)
  have hp : (pad w n).length ≤ w + 8 := by
    unfold pad
    have h1 := toDigits_len10 (w := 8) (n := n) (by omega) (by decide)
    rw [List.length_append, List.length_replicate, List.length_map]
    omega
  refine ⟨n, rfl, by omega, hlog, ?_⟩
  rw [zpad_S]
  exact ⟨S (pad w n), rfl, by rw [S_app, S_len, List.length_append]; exact big_line (by omega), by rw [S_app]; exact h⟩
theorem j_l (hi : σ[i]? = some (some (.str (S l)))) (hn : l.length ≤ 9999) (hl : acc.length ≤ 900000) (hw : w ≤ 100) (h : tJs ts (S (acc ++ pad w l.length)) σ H Q) : tJs (tFmt0 w (tCB (rLEN K) (tCons (tVar i) tNil)) :: ts) (S acc) σ H Q := by
  refine x_js ?_
  refine x_fmt0 ?_
  refine x_cb ?_
  refine x_cons ?_
  refine x_var hi ?_
  refine x_nil ?_
  refine ln_S (by omega) ?_
  have hp := pad_le (w := w) (n := l.length) (by omega)
  refine ⟨l.length, rfl, by omega, log_small (by omega), ?_⟩
  rw [zpad_S]
  exact ⟨S (pad w l.length), rfl, by rw [S_app, S_len, List.length_append]; exact big_line (by omega), by rw [S_app]; exact h⟩
end
theorem a_T {H : Hp} {Q : VK} {p q : Addr} {xs ys : List V} (hp : SqT K H p xs) (hq : SqT K H q ys) (hl : xs.length + ys.length ≤ sizeLine) (h : ∀ r H', Same H H' → SqT K H' r (xs ++ ys) → Q (.ref r) H') : rADD K (.ref p) (.ref q) H Q :=
  a_tt hp hq hl ⟨fun e => by subst e; exact h q H (Same.refl H) hq, fun _ e => by subst e; exact h p H (Same.refl H) (by rw [List.append_nil]; exact hp), fun _ _ l hl => h l _ (same_upd hl) (tup_of upd_same)⟩
theorem dp_ch {H : Hp} {x : V} {c : Ch} (h : Dp K H x (chD c)) : ∃ p, x = .ref p ∧ SqT K H p [.str (S c.1), vlV c.2] := by
  obtain ⟨p, u, v, rfl, hp, hu, hv⟩ := dp_tup2 h
  have hu' := dp_str' hu
  subst hu'
  obtain ⟨k, o⟩ := c
  cases o with
  | none =>
    cases hv
    exact ⟨p, rfl, hp⟩
  | some v' =>
    have hv' := dp_str' (z := S v') hv
    subst hv'
    exact ⟨p, rfl, hp⟩
def sp_change_text (K : PySem.W.Frag) : Sp := fun vs H Q _ => ∃ (x : V) (c : Ch), vs = [x] ∧ Dp K H x (chD c) ∧ LgC c ∧ Q (.str (S (chT c))) H
theorem ok_change_text (Y : Fx K mg) : FnOk P w K mg base CX0 1 Y.a_change_text Y.fd_change_text ["change"] (sp_change_text K) := by
  refine Y.F_change_text.ok sc_change_text (fun vs H Q E h => ?_) (fun cdv A outer s H vs Q E hr h => ?_)
  · obtain ⟨x, c, rfl, _⟩ := h
    rfl
  · obtain ⟨x, ⟨k, o⟩, rfl, hx, hL, q⟩ := h
    refine ⟨_, b_change_text Y hr, ?_⟩
    show t_change_text K _ [some x, none, none] H
    unfold t_change_text
    rw [show ("-" : Str) = S [45] from rfl, show ("+" : Str) = S [43] from rfl, show Str.empty = S [] from rfl]
    obtain ⟨p, rfl, hp⟩ := dp_ch hx
    have hk : k.length ≤ 9999 := hL.1.2
    have p1 := pad_le (w := 4) (n := k.length) (by omega)
    walk_at "rd"
    refine gt_T hp rfl ?_
    refine x_gc ?_
    refine s_gn ?_
    refine x_gc ?_
    refine s_gn ?_
    refine x_gz ?_
    show tSeq _ _ _ [some (.ref p), some (.str (S k)), some (vlV o)] H
    cases o with
    | none =>
      show tSeq _ _ _ [some (.ref p), some (.str (S k)), some .non] H
      walk_at "rd"
      show tJs _ _ _ _ _
      refine j_c (by simp only [List.length_append, List.length_cons, List.length_nil]; omega) ?_
      refine j_l (i := 1) rfl hk (by simp only [List.length_append, List.length_cons, List.length_nil]; omega) (by decide) ?_
      refine j_v (i := 1) rfl (by simp only [List.length_append, List.length_cons, List.length_nil]; omega) ?_
      refine j_0 ?_
      exact q
    | some v =>
      have hv : v.length ≤ 9999 := (hL.2 v rfl).2
      have p2 := pad_le (w := 4) (n := v.length) (by omega)
      show tSeq _ _ _ [some (.ref p), some (.str (S k)), some (.str (S v))] H
      walk_at "rd"
      show tJs _ _ _ _ _
      refine j_c (by simp only [List.length_append, List.length_cons, List.length_nil]; omega) ?_
      refine j_l (i := 1) rfl hk (by simp only [List.length_append, List.length_cons, List.length_nil]; omega) (by decide) ?_
      refine j_v (i := 1) rfl (by simp only [List.length_append, List.length_cons, List.length_nil]; omega) ?_
      refine j_l (i := 2) rfl hv (by simp only [List.length_append, List.length_cons, List.length_nil]; omega) (by decide) ?_
      refine j_v (i := 2) rfl (by simp only [List.length_append, List.length_cons, List.length_nil]; omega) ?_
      refine j_0 ?_
      exact q
end
end My

set_option Elab.async false
set_option linter.all false
set_option maxRecDepth 100000
set_option maxHeartbeats 1000000
namespace My
open PySem PySem.Spec PyProof.Rows L2
local macro_rules | `(tactic| walk_at "len") => `(tactic| first | assumption | omega | decide | (simp only [List.length_append, List.length_take, List.length_drop, List.length_cons, List.length_nil, List.length_replicate]; omega))
local macro_rules | `(tactic| walk_at "side") => `(tactic| first | assumption | exact Nat.zero_le _ | decide | omega)
local macro_rules | `(tactic| walk_at "rd1") => `(tactic| first
  | with_reducible refine s_seq ?_
  | with_reducible refine x_gsub ?_
  | with_reducible refine s_asg ?_
  | ((with_reducible refine s_gn ?_); dsimp only [List.set])
  | ((with_reducible refine x_var (v := ?rdv) ?rdhv ?_); (case rdhv => rfl))
  | with_reducible refine x_c ?_
  | with_reducible refine x_op ?_
  | with_reducible refine x_cons ?_
  | with_reducible refine x_nil ?_
  | with_reducible refine x_cb ?_
  | with_reducible refine x_call ?_
  | with_reducible refine x_callS ?_
  | with_reducible refine x_revT ?_
  | with_reducible refine x_dget ?_
  | with_reducible refine x_din ?_
  | with_reducible refine x_dnotin ?_
  | with_reducible refine s_dput ?_
  | with_reducible refine x_dnew ?_
  | with_reducible refine s_try ?_
  | with_reducible refine s_raise ?_
  | with_reducible refine s_if ?_
  | with_reducible refine s_ret ?_
  | with_reducible refine s_retN ?_
  | with_reducible refine s_next ?_
  | with_reducible refine s_brk ?_
  | with_reducible refine s_cont ?_
  | with_reducible refine s_drop ?_
  | with_reducible refine s_par ?_
  | with_reducible refine s_par3 ?_
  | ((with_reducible refine s_p2 ?_); dsimp only [List.set])
  | ((with_reducible refine s_p3 ?_); dsimp only [List.set])
  | with_reducible refine f_r1 ?_
  | with_reducible refine f_r2 ?_
  | with_reducible refine f_l ?_
  | with_reducible refine f_t ?_
  | with_reducible refine f_s ?_
  | with_reducible refine c_r1 ?_
  | with_reducible refine c_r2 ?_
  | with_reducible refine c_l ?_
  | with_reducible refine c_t ?_
  | with_reducible refine c_s ?_
  | with_reducible refine x_tst ?_
  | with_reducible refine x_tru ?_
  | with_reducible refine x_truB ?_
  | with_reducible refine x_bl2 ?_
  | with_reducible refine x_int ?_
  | with_reducible refine x_str ?_
  | with_reducible refine x_not ?_
  | with_reducible refine x_and ?_
  | with_reducible refine x_or ?_
  | with_reducible refine x_andV ?_
  | with_reducible refine x_orV ?_
  | with_reducible refine x_notV ?_
  | with_reducible refine x_if ?_
  | with_reducible refine x_yes ?_
  | with_reducible refine x_un ?_
  | with_reducible refine x_tup ?_
  | with_reducible refine x_lst ?_
  | with_reducible refine x_callK ?_
  | with_reducible refine x_callK0 ?_
  | with_reducible refine x_bm ?_
  | with_reducible refine x_bm0 ?_
  | with_reducible refine x_tyS ?_
  | with_reducible refine x_sl ?_
  | with_reducible refine x_nopart ?_
  | with_reducible refine x_part ?_
  | with_reducible refine x_fmt0 ?_
  | with_reducible refine x_gc ?_
  | with_reducible refine x_gz ?_
  | with_reducible refine x_ckw ?_
  | with_reducible refine x_fmt ?_
  | with_reducible refine x_chain ?_
  | with_reducible refine a_ii ?_
  | ((with_reducible refine sl_to ?rda ?rdb ?_); (case rda => walk_at "len"); (case rdb => walk_at "len"))
  | ((with_reducible refine sl_from ?rda ?rdb ?_); (case rda => walk_at "len"); (case rdb => walk_at "len"))
  | ((with_reducible refine sl_mid ?rda ?rdb ?rdc ?_); (case rda => walk_at "len"); (case rdb => walk_at "len"); (case rdc => walk_at "len"))
  | ((with_reducible refine a_SS ?rda ?_); (case rda => walk_at "len"))
  | ((with_reducible refine ln_S ?rda ?_); (case rda => walk_at "len"))
  | with_reducible refine e_SS ?_
  | with_reducible refine ne_SS ?_
  | with_reducible refine s_ii ?_
  | ((with_reducible refine md_ii ?rdc ?_); (case rdc => first | decide | assumption | omega))
  | with_reducible refine n_i ?_
  | with_reducible refine e_ii ?_
  | with_reducible refine e_bb ?_
  | with_reducible refine ne_ii ?_
  | with_reducible refine ne_bb ?_
  | with_reducible refine lt_ii ?_
  | with_reducible refine lt_ss ?_
  | with_reducible refine le_ii ?_
  | with_reducible refine le_ss ?_
  | with_reducible refine gt_ii ?_
  | with_reducible refine gt_ss ?_
  | with_reducible refine ge_ii ?_
  | with_reducible refine e_ss ?_
  | with_reducible refine ne_ss ?_
  | with_reducible refine is_N ?_
  | with_reducible refine is_T ?_
  | with_reducible refine is_B ?_
  | with_reducible refine isn_N ?_
  | with_reducible refine isn_T ?_
  | with_reducible refine isn_B ?_
  | with_reducible refine in_s ?_
  | with_reducible refine nin_s ?_
  | with_reducible refine i_i ?_
  | with_reducible refine i_b ?_
  | with_reducible refine ab_i ?_
  | with_reducible refine mx_ii ?_
  | with_reducible refine mn_ii ?_
  | with_reducible refine ty_N ?_
  | with_reducible refine ty_B ?_
  | with_reducible refine ty_I ?_
  | with_reducible refine ty_S ?_
  | with_reducible refine ma_s ?_
  | with_reducible refine mp_s ?_
  | with_reducible refine mdg_s ?_
  | with_reducible refine mf_s ?_
  | with_reducible refine iteT ?_
  | with_reducible refine iteF ?_
  | with_reducible refine iteNt ?_
  | with_reducible refine iteNf ?_
  | with_reducible refine iteTd (by decide) ?_
  | with_reducible refine iteFd (by decide) ?_
  | with_reducible refine iteNd (by decide) ?_
  | with_reducible refine iteNdF (by decide) ?_
  | ((with_reducible refine iteFd ?rdn ?_); (case rdn => (intro rdz; cases rdz; done)))
  | ((with_reducible refine iteNdF ?rdn ?_); (case rdn => (intro rdz; cases rdz; done))))
local macro_rules | `(tactic| walk_at "rd") => `(tactic| (repeat walk_at "rd1"))
section
variable {P : Program} {w : World} {K : PySem.W.Frag} {mg : Str → Option Value} {base : Heap}
theorem partR_mid {A k R : List Nat} {a : Nat} (ha : A.length = a) (hk : k.length < 10000) : partR (A ++ (pad 4 k.length ++ (k ++ R))) a = some (k, a + 4 + k.length) := by
  unfold partR
  have p4 : (pad 4 k.length).length = 4 := pad_lenW (by decide) hk
  rw [numAt_pad ha (by decide) hk]
  have hl : (A ++ (pad 4 k.length ++ (k ++ R))).length = a + 4 + k.length + R.length := by
    rw [List.length_append, List.length_append, List.length_append, ha, p4]
    omega
  show (if (A ++ (pad 4 k.length ++ (k ++ R))).length < a + 4 + k.length then none else some (cutL (A ++ (pad 4 k.length ++ (k ++ R))) (a + 4) (a + 4 + k.length), a + 4 + k.length)) = _
  rw [if_neg (by omega)]
  unfold cutL
  rw [← List.append_assoc A, mid (by rw [List.length_append, ha, p4]) rfl]
theorem chgR_mid {A R : List Nat} {a : Nat} (ha : A.length = a) {c : Ch} (hc : TxC c) : chgR (A ++ (chT c ++ R)) a = some (c, a + (chT c).length) := by
  obtain ⟨k, o⟩ := c
  obtain ⟨⟨_, hk⟩, hv⟩ := hc
  have hk' : k.length ≤ 9999 := hk
  have p4 : (pad 4 k.length).length = 4 := pad_lenW (by decide) (by omega)
  unfold chgR
  cases o with
  | none =>
    have e : A ++ (chT (k, none) ++ R) = (A ++ [45]) ++ (pad 4 k.length ++ (k ++ R)) := by
      show A ++ (([45] ++ pad 4 k.length ++ k) ++ R) = _
      simp only [List.append_assoc]
    have hl : (chT (k, none)).length = 1 + 4 + k.length := by
      show ([45] ++ pad 4 k.length ++ k).length = _
      rw [List.length_append, List.length_append, p4]
      rfl
    have hs : (A ++ (chT (k, none) ++ R))[a]? = some 45 := by
      rw [List.getElem?_append_right (by omega), ha, Nat.sub_self]
      rfl
    rw [hs]
    have hp : partR (A ++ (chT (k, none) ++ R)) (a + 1) = some (k, a + 1 + 4 + k.length) := by
      rw [e]
      exact partR_mid (by rw [List.length_append, ha]; rfl) (by omega)
    rw [hp, hl]
    show (if some 45 = some 45 then some (((k, none) : Ch), a + 1 + 4 + k.length) else _) = _
    rw [if_pos rfl]
    congr 2
    omega
  | some v =>
    have hv' : v.length ≤ 9999 := (hv v rfl).2
    have q4 : (pad 4 v.length).length = 4 := pad_lenW (by decide) (by omega)
    have e : A ++ (chT (k, some v) ++ R) = (A ++ [43]) ++ (pad 4 k.length ++ (k ++ (pad 4 v.length ++ (v ++ R)))) := by
      show A ++ (([43] ++ pad 4 k.length ++ k ++ pad 4 v.length ++ v) ++ R) = _
      simp only [List.append_assoc]
    have e2 : A ++ (chT (k, some v) ++ R) = (A ++ [43] ++ pad 4 k.length ++ k) ++ (pad 4 v.length ++ (v ++ R)) := by
      rw [e]
      simp only [List.append_assoc]
    have hl : (chT (k, some v)).length = 1 + 4 + k.length + 4 + v.length := by
      show ([43] ++ pad 4 k.length ++ k ++ pad 4 v.length ++ v).length = _
      rw [List.length_append, List.length_append, List.length_append, List.length_append, p4, q4]
      rfl
    have hs : (A ++ (chT (k, some v) ++ R))[a]? = some 43 := by
      rw [List.getElem?_append_right (by omega), ha, Nat.sub_self]
      rfl
    have hp : partR (A ++ (chT (k, some v) ++ R)) (a + 1) = some (k, a + 1 + 4 + k.length) := by
      rw [e]
      exact partR_mid (by rw [List.length_append, ha]; rfl) (by omega)
    have hp2 : partR (A ++ (chT (k, some v) ++ R)) (a + 1 + 4 + k.length) = some (v, a + 1 + 4 + k.length + 4 + v.length) := by
      rw [e2]
      exact partR_mid (by rw [List.length_append, List.length_append, List.length_append, ha, p4]; rfl) (by omega)
    rw [hs, hp, hl]
    show (if some 43 = some 45 then _ else match partR (A ++ (chT (k, some v) ++ R)) (a + 1 + 4 + k.length) with
      | none => none
      | some r2 => if some 43 = some 43 then some ((k, some r2.1), r2.2) else none) = _
    rw [if_neg (by decide), hp2]
    show (if some 43 = some 43 then some (((k, some v) : Ch), a + 1 + 4 + k.length + 4 + v.length) else none) = _
    rw [if_pos rfl]
    congr 2
    omega
theorem chT_pos (c : Ch) : 1 ≤ (chT c).length := by
  obtain ⟨k, o⟩ := c
  cases o with
  | none =>
    show 1 ≤ ([45] ++ pad 4 k.length ++ k).length
    rw [List.length_append, List.length_append, List.length_singleton]
    omega
  | some v =>
    show 1 ≤ ([43] ++ pad 4 k.length ++ k ++ pad 4 v.length ++ v).length
    rw [List.length_append, List.length_append, List.length_append, List.length_append, List.length_singleton]
    omega
theorem chsR_mid : ∀ (cs : List Ch) (A : List Nat) (n : Nat), (∀ c ∈ cs, TxC c) → ((cs.map chT).flatten).length ≤ n → chsR (A ++ (cs.map chT).flatten) n A.length = some cs
  | [], A, n, _, _ => chsR_end (by
      show ¬ A.length < (A ++ []).length
      rw [List.append_nil]
      omega)
  | c :: cs, A, 0, _, hn => by
    have := chT_pos c
    have h2 : ((chT c) ++ (cs.map chT).flatten).length ≤ 0 := hn
    rw [List.length_append] at h2
    omega
  | c :: cs, A, n + 1, h, hn => by
    have hp := chT_pos c
    have h2 : ((chT c) ++ (cs.map chT).flatten).length ≤ n + 1 := hn
    rw [List.length_append] at h2
    show chsR (A ++ (chT c ++ (cs.map chT).flatten)) (n + 1) A.length = _
    rw [chsR, if_pos (by rw [List.length_append, List.length_append]; omega), chgR_mid rfl (h c (List.mem_cons_self ..))]
    show (chsR (A ++ (chT c ++ (cs.map chT).flatten)) n (A.length + (chT c).length)).map (c :: ·) = _
    have ih := chsR_mid cs (A ++ chT c) n (fun d hd => h d (List.mem_cons_of_mem _ hd)) (by omega)
    rw [List.length_append, List.append_assoc] at ih
    rw [ih]
    rfl
end
end My

set_option Elab.async false
set_option linter.all false
set_option maxRecDepth 100000
set_option maxHeartbeats 1000000
namespace My
open PySem PySem.Spec PyProof.Rows L2
local macro_rules | `(tactic| walk_at "len") => `(tactic| first | assumption | omega | decide | (simp only [List.length_append, List.length_take, List.length_drop, List.length_cons, List.length_nil, List.length_replicate]; omega))
local macro_rules | `(tactic| walk_at "side") => `(tactic| first | assumption | exact Nat.zero_le _ | decide | omega)
local macro_rules | `(tactic| walk_at "rd1") => `(tactic| first
  | with_reducible refine s_seq ?_
  | with_reducible refine x_gsub ?_
  | with_reducible refine s_asg ?_
  | ((with_reducible refine s_gn ?_); dsimp only [List.set])
  | ((with_reducible refine x_var (v := ?rdv) ?rdhv ?_); (case rdhv => rfl))
  | with_reducible refine x_c ?_
  | with_reducible refine x_op ?_
  | with_reducible refine x_cons ?_
  | with_reducible refine x_nil ?_
  | with_reducible refine x_cb ?_
  | with_reducible refine x_call ?_
  | with_reducible refine x_callS ?_
  | with_reducible refine x_revT ?_
  | with_reducible refine x_dget ?_
  | with_reducible refine x_din ?_
  | with_reducible refine x_dnotin ?_
  | with_reducible refine s_dput ?_
  | with_reducible refine x_dnew ?_
  | with_reducible refine s_try ?_
  | with_reducible refine s_raise ?_
  | with_reducible refine s_if ?_
  | with_reducible refine s_ret ?_
  | with_reducible refine s_retN ?_
  | with_reducible refine s_next ?_
  | with_reducible refine s_brk ?_
  | with_reducible refine s_cont ?_
  | with_reducible refine s_drop ?_
  | with_reducible refine s_par ?_
  | with_reducible refine s_par3 ?_
  | ((with_reducible refine s_p2 ?_); dsimp only [List.set])
  | ((with_reducible refine s_p3 ?_); dsimp only [List.set])
  | with_reducible refine f_r1 ?_
  | with_reducible refine f_r2 ?_
  | with_reducible refine f_l ?_
  | with_reducible refine f_t ?_
  | with_reducible refine f_s ?_
  | with_reducible refine c_r1 ?_
  | with_reducible refine c_r2 ?_
  | with_reducible refine c_l ?_
  | with_reducible refine c_t ?_
  | with_reducible refine c_s ?_
  | with_reducible refine x_tst ?_
  | with_reducible refine x_tru ?_
  | with_reducible refine x_truB ?_
  | with_reducible refine x_bl2 ?_
  | with_reducible refine x_int ?_
  | with_reducible refine x_str ?_
  | with_reducible refine x_not ?_
  | with_reducible refine x_and ?_
  | with_reducible refine x_or ?_
  | with_reducible refine x_andV ?_
  | with_reducible refine x_orV ?_
  | with_reducible refine x_notV ?_
  | with_reducible refine x_if ?_
  | with_reducible refine x_yes ?_
  | with_reducible refine x_un ?_
  | with_reducible refine x_tup ?_
  | with_reducible refine x_lst ?_
  | with_reducible refine x_callK ?_
  | with_reducible refine x_callK0 ?_
  | with_reducible refine x_bm ?_
  | with_reducible refine x_bm0 ?_
  | with_reducible refine x_tyS ?_
  | with_reducible refine x_sl ?_
  | with_reducible refine x_nopart ?_
  | with_reducible refine x_part ?_
  | with_reducible refine x_fmt0 ?_
  | with_reducible refine x_gc ?_
  | with_reducible refine x_gz ?_
  | with_reducible refine x_ckw ?_
  | with_reducible refine x_fmt ?_
  | with_reducible refine x_chain ?_
  | with_reducible refine a_ii ?_
  | ((with_reducible refine sl_to ?rda ?rdb ?_); (case rda => walk_at "len"); (case rdb => walk_at "len"))
  | ((with_reducible refine sl_from ?rda ?rdb ?_); (case rda => walk_at "len"); (case rdb => walk_at "len"))
  | ((with_reducible refine sl_mid ?rda ?rdb ?rdc ?_); (case rda => walk_at "len"); (case rdb => walk_at "len"); (case rdc => walk_at "len"))
  | ((with_reducible refine a_SS ?rda ?_); (case rda => walk_at "len"))
  | ((with_reducible refine ln_S ?rda ?_); (case rda => walk_at "len"))
  | with_reducible refine e_SS ?_
  | with_reducible refine ne_SS ?_
  | with_reducible refine s_ii ?_
  | ((with_reducible refine md_ii ?rdc ?_); (case rdc => first | decide | assumption | omega))
  | with_reducible refine n_i ?_
  | with_reducible refine e_ii ?_
  | with_reducible refine e_bb ?_
  | with_reducible refine ne_ii ?_
  | with_reducible refine ne_bb ?_
  | with_reducible refine lt_ii ?_
  | with_reducible refine lt_ss ?_
  | with_reducible refine le_ii ?_
  | with_reducible refine le_ss ?_
  | with_reducible refine gt_ii ?_
  | with_reducible refine gt_ss ?_
  | with_reducible refine ge_ii ?_
  | with_reducible refine e_ss ?_
  | with_reducible refine ne_ss ?_
  | with_reducible refine is_N ?_
  | with_reducible refine is_T ?_
  | with_reducible refine is_B ?_
  | with_reducible refine isn_N ?_
  | with_reducible refine isn_T ?_
  | with_reducible refine isn_B ?_
  | with_reducible refine in_s ?_
  | with_reducible refine nin_s ?_
  | with_reducible refine i_i ?_
  | with_reducible refine i_b ?_
  | with_reducible refine ab_i ?_
  | with_reducible refine mx_ii ?_
  | with_reducible refine mn_ii ?_
  | with_reducible refine ty_N ?_
  | with_reducible refine ty_B ?_
  | with_reducible refine ty_I ?_
  | with_reducible refine ty_S ?_
  | with_reducible refine ma_s ?_
  | with_reducible refine mp_s ?_
  | with_reducible refine mdg_s ?_
  | with_reducible refine mf_s ?_
  | with_reducible refine iteT ?_
  | with_reducible refine iteF ?_
  | with_reducible refine iteNt ?_
  | with_reducible refine iteNf ?_
  | with_reducible refine iteTd (by decide) ?_
  | with_reducible refine iteFd (by decide) ?_
  | with_reducible refine iteNd (by decide) ?_
  | with_reducible refine iteNdF (by decide) ?_
  | ((with_reducible refine iteFd ?rdn ?_); (case rdn => (intro rdz; cases rdz; done)))
  | ((with_reducible refine iteNdF ?rdn ?_); (case rdn => (intro rdz; cases rdz; done))))
local macro_rules | `(tactic| walk_at "rd") => `(tactic| (repeat walk_at "rd1"))
section
variable {P : Program} {w : World} {K : PySem.W.Frag} {mg : Str → Option Value} {base : Heap}
def noneL : List Nat := [110, 111, 110, 101]
def partL : List Nat := [112, 97, 114, 116]
def pieceL : List Nat := [112, 105, 101, 99, 101]
def isNumD (lo hi : Int) : PyData → Bool
  | .int i => decide (lo ≤ i) && decide (i ≤ hi)
  | _ => false
def sp_is_number (K : PySem.W.Frag) : Sp := fun vs H Q _ => ∃ (x : V) (d : PyData) (lo hi : Int), vs = [x, .int lo, .int hi] ∧ Dp K H x d ∧ Q (.bl (isNumD lo hi d)) H
theorem ok_is_number (Y : Fx K mg) : FnOk P w K mg base CX0 1 Y.a_is_number Y.fd_is_number ["value", "low", "high"] (sp_is_number K) := by
  refine Y.F_is_number.ok sc_is_number (fun vs H Q E h => ?_) (fun cdv A outer s H vs Q E hr h => ?_)
  · obtain ⟨x, d, lo, hi, rfl, _⟩ := h
    rfl
  · obtain ⟨x, d, lo, hi, rfl, hx, q⟩ := h
    refine ⟨_, b_is_number Y hr, ?_⟩
    show t_is_number K _ [some x, some (.int lo), some (.int hi)] H
    unfold t_is_number
    walk_at "rd"
    refine ty_D hx ?_
    cases hx with
    | int i =>
      have q' : Q (.bl (decide (lo ≤ i) && decide (i ≤ hi))) H := q
      walk_at "rd"
      refine iteTd rfl ?_
      walk_at "rd"
      refine ite2' (fun e => ?_) (fun e => ?_)
      · rw [e, Bool.true_and] at q'
        walk_at "rd"
        exact q'
      · rw [e, Bool.false_and] at q'
        exact q'
    | non =>
      walk_at "rd"
      exact q
    | bl b =>
      walk_at "rd"
      refine iteFd (show ¬ (("bool" : String) = "int") by decide) ?_
      exact q
    | str z =>
      walk_at "rd"
      refine iteFd (show ¬ (("str" : String) = "int") by decide) ?_
      exact q
    | lst h _ =>
      walk_at "rd"
      refine iteFd (show ¬ (("list" : String) = "int") by decide) ?_
      exact q
    | tup h _ =>
      walk_at "rd"
      refine iteFd (show ¬ (("tuple" : String) = "int") by decide) ?_
      exact q
/-! changes as rows -/
theorem chg_of {d : PyData} (h : isChgD d = true) : ∃ c : Ch, d = chD c ∧ ShT c := by
  cases d with
  | tuple ds =>
    rcases ds with _ | ⟨a, _ | ⟨b, _ | ⟨c, r⟩⟩⟩
    · cases h
    · cases h
    · have h' : (isTxD a && (isNo b || isTxD b)) = true := h
      rw [Bool.and_eq_true, Bool.or_eq_true] at h'
      obtain ⟨ha, hb⟩ := h'
      have one : ∀ {e : PyData}, isTxD e = true → ∃ l, e = .str (S l) ∧ isT l = true := by
        intro e he
        cases e with
        | str z => exact ⟨z.cps.toList, by rw [← S_eta z], he⟩
        | _ => cases he
      obtain ⟨l, rfl, hl⟩ := one ha
      rcases hb with hb | hb
      · have : b = .none := by cases b <;> first | rfl | cases hb
        subst this
        exact ⟨(l, none), rfl, hl, fun v e => by cases e⟩
      · obtain ⟨m, rfl, hm⟩ := one hb
        exact ⟨(l, some m), rfl, hl, fun v e => by cases e; exact hm⟩
    · cases h
  | _ => cases h
theorem chs_all : ∀ {ds : List PyData}, ds.all isChgD = true → ∃ cs : List Ch, ds = cs.map chD ∧ ∀ c ∈ cs, ShT c
  | [], _ => ⟨[], rfl, fun _ h => by cases h⟩
  | d :: ds, h => by
    rw [List.all_cons, Bool.and_eq_true] at h
    obtain ⟨c, rfl, hc⟩ := chg_of h.1
    obtain ⟨cs, rfl, hcs⟩ := chs_all h.2
    exact ⟨c :: cs, rfl, fun e he => (List.mem_cons.mp he).elim (fun z => z ▸ hc) fun z => hcs e z⟩
theorem chs_of {d : PyData} (h : isChsD d = true) : ∃ cs : List Ch, d = chsD cs ∧ ∀ c ∈ cs, ShT c := by
  cases d with
  | tuple ds =>
    have h' : (ds.all isChgD && ascL (ds.map keyD)) = true := h
    rw [Bool.and_eq_true] at h'
    obtain ⟨cs, rfl, hc⟩ := chs_all h'.1
    exact ⟨cs, rfl, hc⟩
  | _ => cases h
def someB (cs : List Ch) : Bool := cs.all fun c => c.2.isSome
def valD : PyData → PyData
  | .tuple [_, v] => v
  | _ => .none
def entB : PyData → Bool
  | .tuple ds => ds.all fun e => !isNo (valD e)
  | _ => false
theorem ent_chs (cs : List Ch) : entB (chsD cs) = someB cs := by
  show (cs.map chD).all (fun e => !isNo (valD e)) = someB cs
  unfold someB
  rw [List.all_map]
  congr 1
  funext c
  obtain ⟨k, o⟩ := c
  cases o <;> rfl
def isEntD (d : PyData) : Bool := isChsD d && entB d
def sp_is_entries (K : PySem.W.Frag) : Sp := fun vs H Q _ => ∃ (x : V) (d : PyData), vs = [x] ∧ Dp K H x d ∧ (∀ ds, d = .tuple ds → ds.length ≤ 300000) ∧ ∀ H', Same H H' → Q (.bl (isEntD d)) H'
theorem vl_non (o : Option (List Nat)) : (!decide (vlV o = .non)) = o.isSome := by
  cases o with
  | none => rfl
  | some v => rfl
theorem ok_is_entries (Y : Fx K mg) : FnOk P w K mg base CX0 4 Y.a_is_entries Y.fd_is_entries ["value"] (sp_is_entries K) := by
  refine Y.F_is_entries.ok sc_is_entries (fun vs H Q E h => ?_) (fun cdv A outer s H vs Q E hr h => ?_)
  · obtain ⟨x, d, rfl, _⟩ := h
    rfl
  · obtain ⟨x, d, rfl, hx, hz, q⟩ := h
    refine ⟨_, b_is_entries Y (ok_is_changes Y) hr, ?_⟩
    show t_is_entries K _ _ [some x, none, none] H
    unfold t_is_entries
    walk_at "rd"
    refine ⟨x, d, rfl, hx, hz, fun H1 hS1 => ?_⟩
    walk_at "rd"
    refine ite2' (fun e => ?_) (fun e => ?_)
    · obtain ⟨cs, rfl, _⟩ := chs_of e
      have q' : ∀ H', Same H H' → Q (.bl (someB cs)) H' := fun H' h => by
        have := q H' h
        unfold isEntD at this
        rw [e, Bool.true_and, ent_chs] at this
        exact this
      obtain ⟨p, us, rfl, hp, ha⟩ := dp_tup' hx
      have hul := dpAll_len ha
      rw [List.length_map] at hul
      have hcl : cs.length ≤ 300000 := by have := hz _ rfl; rwa [List.length_map] at this
      walk_at "rd"
      refine lcT_mk (same_sqt hS1 hp) (fun D i H' => Same H1 H' ∧ H' D = some (.lst ((cs.take i).map fun c => V.bl c.2.isSome))) (fun D hD => ⟨same_upd hD, upd_same⟩) (fun D i H' hD _ hP => same_sqt (hS1.trans hP.1) hp) (fun D i x H' hD hxi hP => ?_) (fun D H' hD hP => ?_)
      · obtain ⟨hS, hH⟩ := hP
        obtain ⟨c, hc, hdc⟩ := all_at ha hxi
        have hi := (List.getElem?_eq_some_iff.mp hc).1
        obtain ⟨tc, rfl, htc⟩ := dp_ch hdc
        refine gt_T (same_sqt (hS1.trans hS) htc) rfl ?_
        refine x_gc ?_
        refine s_gn ?_
        refine x_gc ?_
        refine s_gn ?_
        refine x_gz ?_
        refine ⟨rfl, ?_⟩
        show tYes [some (.ref p), some (.str (S c.1)), some (vlV c.2)] H' _
        walk_at "rd"
        refine ⟨_, hH, Nat.lt_of_le_of_lt (show _ ≤ 300000 by rw [List.length_map, List.length_take]; omega) (by decide), same_mut hS hD, ?_⟩
        rw [upd_same, bv_snoc hc, vl_non]
      · obtain ⟨hS, hH⟩ := hP
        rw [hul, List.take_of_length_le (Nat.le_refl _), show (cs.map fun c => V.bl c.2.isSome) = (cs.map fun c => c.2.isSome).map V.bl by rw [List.map_map]; rfl] at hH
        walk_at "rd"
        refine al_b (lst_of hH) ?_
        have e : (cs.map fun c => c.2.isSome).all id = someB cs := by rw [List.all_map]; rfl
        rw [e]
        exact q' _ (hS1.trans hS)
    · have := q H1 hS1
      unfold isEntD at this
      rw [e, Bool.false_and] at this
      exact this
/-! lines -/
def lineL (c : Ch) : List Bool := match c.2 with
  | none => [decide (c.1.length ≤ 9999)]
  | some v => [decide (c.1.length ≤ 9999), decide (v.length ≤ 9999)]
def lineC (c : Ch) : Bool := (lineL c).all id
def linesB (cs : List Ch) : Bool := cs.all lineC
def txtB : PyData → Bool
  | .str z => decide (z.length ≤ 9999)
  | _ => true
def rowB : PyData → Bool
  | .tuple es => es.all txtB
  | _ => true
def lineB : PyData → Bool
  | .tuple ds => ds.all rowB
  | _ => true
theorem line_chs (cs : List Ch) : lineB (chsD cs) = linesB cs := by
  show (cs.map chD).all rowB = linesB cs
  unfold linesB
  rw [List.all_map]
  congr 1
  funext c
  obtain ⟨k, o⟩ := c
  cases o with
  | none =>
    show (decide ((S k).length ≤ 9999) && (true && true)) = (decide (k.length ≤ 9999) && true)
    rw [S_len]
    rfl
  | some v =>
    show (decide ((S k).length ≤ 9999) && (decide ((S v).length ≤ 9999) && true)) = (decide (k.length ≤ 9999) && (decide (v.length ≤ 9999) && true))
    rw [S_len, S_len]
theorem lines_flat (cs : List Ch) : (cs.flatMap lineL).all id = linesB cs := by
  unfold linesB
  rw [List.all_flatMap]
  rfl
theorem lc2_ln {H : Hp} {Q : VK} {te : TE} {tt : TT} {x1 x2 x3 : Option V} {a : Addr} {xs : List V} (hx : SqT K H a xs) (Pv : Addr → Nat → Hp → Prop) (Pw : Addr → Nat → Nat → Hp → Prop)
    (h0 : ∀ D, H D = none → Pv D 0 (upd H D (.lst [])))
    (hl : ∀ D i H', H D = none → Pv D i H' → SqT K H' a xs)
    (hin : ∀ D i x H', H D = none → xs[i]? = some x → Pv D i H' → ∃ b ys, x = .ref b ∧ SqT K H' b ys ∧ Pw D i 0 H' ∧ (∀ j H2, Pw D i j H2 → SqT K H2 b ys) ∧ (∀ H2, Pw D i ys.length H2 → Pv D (i + 1) H2) ∧
      ∀ j y H2, ys[j]? = some y → Pw D i j H2 → tt [some (.ref a), x1, some (.ref b), some y] H2 fun c H3 => if c = true then te [some (.ref a), x1, some (.ref b), some y] H3 fun z H4 => ∃ acc, H4 D = some (.lst acc) ∧ acc.length < sizeLine ∧ Pw D i (j + 1) (upd H4 D (.lst (acc ++ [z]))) else Pw D i (j + 1) H3)
    (hd : ∀ D H', H D = none → Pv D xs.length H' → Q (.ref D) H') :
    tLc2 (iTup K (tVar 0)) (gName 2) tYes (iTup K (tVar 2)) (gName 3) tt te [2, 3] [3] [some (.ref a), x1, x2, x3] H Q := by
  refine ⟨.ref a, rfl, a, rfl, ⟨xs, hx⟩, fun D hD => ⟨fun i m H' => m = xs.length - i ∧ i ≤ xs.length ∧ Pv D i H', ⟨xs.length, by simp, Nat.zero_le _, h0 D hD⟩, ?_⟩⟩
  rintro i m H' ⟨rfl, hi, p⟩
  have sx := hl D i H' hD p
  by_cases hlt : i < xs.length
  · refine .inr ⟨⟨xs, _, sx, List.getElem?_eq_getElem hlt⟩, Pv D (i + 1), fun H2 p' => ⟨xs.length - (i + 1), by omega, rfl, hlt, p'⟩, fun x H2 y => ?_⟩
    obtain ⟨rfl, e⟩ := y
    obtain ⟨b, ys, rfl, sb, p0, hk, hend, hstep⟩ := hin D i x _ hD (e _ sx) p
    refine ⟨rfl, ?_⟩
    show (if true = true then _ else Pv D (i + 1) H2)
    refine iteT ?_
    refine ⟨.ref b, rfl, b, rfl, ⟨ys, sb⟩, fun j k H2 => k = ys.length - j ∧ j ≤ ys.length ∧ Pw D i j H2, ⟨ys.length, by simp, Nat.zero_le _, p0⟩, ?_⟩
    rintro j k H2 ⟨rfl, hj, pw⟩
    have sy := hk j H2 pw
    by_cases hlt2 : j < ys.length
    · refine .inr ⟨⟨ys, _, sy, List.getElem?_eq_getElem hlt2⟩, Pw D i (j + 1), fun H3 p' => ⟨ys.length - (j + 1), by omega, rfl, hlt2, p'⟩, fun y H3 yy => ?_⟩
      obtain ⟨rfl, e2⟩ := yy
      refine ⟨rfl, ?_⟩
      exact hstep j y _ (e2 _ sy) pw
    · have e3 : j = ys.length := by omega
      subst e3
      exact .inl ⟨⟨ys, sy, Nat.le_refl _⟩, hend _ pw⟩
  · have e3 : i = xs.length := by omega
    subst e3
    exact .inl ⟨⟨xs, sx, Nat.le_refl _⟩, hd D H' hD p⟩
def linJ (c : Ch) : Nat → List Bool
  | 0 => []
  | 1 => [decide (c.1.length ≤ 9999)]
  | _ => lineL c
def BgC (c : Ch) : Prop := c.1.length ≤ 300000 ∧ ∀ v, c.2 = some v → v.length ≤ 300000
def sp_are_lines (K : PySem.W.Frag) : Sp := fun vs H Q _ => ∃ (x : V) (d : PyData) (b : Bool), vs = [x, .bl b] ∧ Dp K H x d ∧ (b = true → ∃ cs, d = chsD cs ∧ cs.length ≤ 300000 ∧ ∀ c ∈ cs, BgC c) ∧ ∀ H', Same H H' → Q (.bl (b && lineB d)) H'
theorem fm_len (cs : List Ch) : (cs.flatMap lineL).length ≤ 2 * cs.length := by
  induction cs with
  | nil => exact Nat.le_refl _
  | cons c cs ih =>
    have : (lineL c).length ≤ 2 := by
      obtain ⟨k, o⟩ := c
      cases o with
      | none => exact Nat.le_succ 1
      | some v => exact Nat.le_refl 2
    rw [List.flatMap_cons, List.length_append, List.length_cons]
    omega
theorem ok_are_lines (Y : Fx K mg) : FnOk P w K mg base CX0 1 Y.a_are_lines Y.fd_are_lines ["rows", "are_right"] (sp_are_lines K) := by
  refine Y.F_are_lines.ok sc_are_lines (fun vs H Q E h => ?_) (fun cdv A outer s H vs Q E hr h => ?_)
  · obtain ⟨x, d, b, rfl, _⟩ := h
    rfl
  · obtain ⟨x, d, b, rfl, hx, hb, q⟩ := h
    refine ⟨_, b_are_lines Y hr, ?_⟩
    show t_are_lines K _ [some x, some (.bl b), none, none] H
    unfold t_are_lines
    walk_at "rd"
    cases b with
    | false =>
      walk_at "rd"
      exact q H (Same.refl H)
    | true =>
      obtain ⟨cs, rfl, hcl, hbg⟩ := hb rfl
      obtain ⟨p, us, rfl, hp, ha⟩ := dp_tup' hx
      have hul := dpAll_len ha
      rw [List.length_map] at hul
      refine iteNt ?_
      walk_at "rd"
      refine lc2_ln hp (fun D i H' => Same H H' ∧ H' D = some (.lst (((cs.take i).flatMap lineL).map V.bl))) (fun D i j H' => Same H H' ∧ ∃ c, cs[i]? = some c ∧ H' D = some (.lst (((cs.take i).flatMap lineL ++ linJ c j).map V.bl)))
        (fun D hD => ⟨same_upd hD, upd_same⟩) (fun D i H' hD hP => same_sqt hP.1 hp) (fun D i x H' hD hxi hP => ?_) (fun D H' hD hP => ?_)
      · obtain ⟨hS, hH⟩ := hP
        obtain ⟨c, hc, hdc⟩ := all_at ha hxi
        have hi := (List.getElem?_eq_some_iff.mp hc).1
        obtain ⟨tc, rfl, htc⟩ := dp_ch hdc
        have hz := hbg c (List.mem_of_getElem? hc)
        have fl := fm_len (cs.take i)
        rw [List.length_take] at fl
        refine ⟨tc, _, rfl, same_sqt hS htc, ⟨hS, c, hc, by rw [hH]; simp [linJ]⟩, fun j H2 h => same_sqt h.1 htc, fun H2 h => ?_, fun j y H2 hy h => ?_⟩
        · obtain ⟨hS2, c', hc', h2⟩ := h
          rw [hc] at hc'
          cases hc'
          refine ⟨hS2, ?_⟩
          rw [h2, take_snoc hc, List.flatMap_append]
          simp [linJ]
        · obtain ⟨hS2, c', hc', h2⟩ := h
          rw [hc] at hc'
          cases hc'
          obtain ⟨k, o⟩ := c
          have hk : k.length ≤ 300000 := hz.1
          match j, hy with
          | 0, hy =>
            cases hy
            show tTest _ [some (.ref p), some (.bl true), some (.ref tc), some (.str (S k))] H2 _
            walk_at "rd"
            refine ⟨_, h2, Nat.lt_of_le_of_lt (show _ ≤ 700000 by rw [List.length_map, List.length_append]; show _ + 0 ≤ _; omega) (by decide), same_mut hS2 hD, _, hc, ?_⟩
            rw [upd_same]
            have e1 : decide ((k.length : Int) ≤ 9999) = decide (k.length ≤ 9999) := decide_eq_decide.mpr (by omega)
            rw [e1]
            simp [linJ]
          | 1, hy =>
            cases o with
            | none =>
              have hy2 : some V.non = some y := hy
              cases hy2
              show tTest _ [some (.ref p), some (.bl true), some (.ref tc), some .non] H2 _
              walk_at "rd"
              refine ⟨hS2, _, hc, ?_⟩
              rw [h2]
              rfl
            | some v =>
              have hv : v.length ≤ 300000 := hz.2 v rfl
              have hy2 : some (V.str (S v)) = some y := hy
              cases hy2
              show tTest _ [some (.ref p), some (.bl true), some (.ref tc), some (.str (S v))] H2 _
              walk_at "rd"
              refine ⟨_, h2, Nat.lt_of_le_of_lt (show _ ≤ 700000 by rw [List.length_map, List.length_append]; show _ + 1 ≤ _; omega) (by decide), same_mut hS2 hD, _, hc, ?_⟩
              rw [upd_same]
              have e1 : decide ((v.length : Int) ≤ 9999) = decide (v.length ≤ 9999) := decide_eq_decide.mpr (by omega)
              rw [e1]
              simp [linJ, lineL]
          | j + 2, hy => cases hy
      · obtain ⟨hS, hH⟩ := hP
        rw [hul, List.take_of_length_le (Nat.le_refl _)] at hH
        walk_at "rd"
        refine al_b (lst_of hH) ?_
        rw [lines_flat, ← line_chs]
        exact q _ hS
/-! letters -/
def strIs (l : List Nat) : PyData → Bool
  | .str z => decide (z = S l)
  | _ => false
theorem eqv_strIs (d : PyData) (l : List Nat) : PyData.eqv d (.str (S l)) = strIs l d := by
  cases d with
  | str z =>
    have e : PyData.eqv (.str z) (.str (S l)) = (z == S l) := by simp [PyData.eqv]
    rw [e]
    show (z == S l) = decide (z = S l)
    by_cases h : z = S l
    · rw [decide_eq_true h, h]
      simp
    · rw [decide_eq_false h]
      simpa using h
  | _ => simp [PyData.eqv, strIs]
def isIdxD : PyData → PyData → Bool
  | .int k, i => isNumD 0 (k - 1) i
  | _, _ => false
def lpart : List PyData → Bool
  | [n, c] => isNumD 1 99999999 n && (isChsD c && lineB c)
  | _ => false
def lpiece : List PyData → Bool
  | [n, i, p, e] => isNumD 0 99999999 n && (isNumD 1 9999 p && (isIdxD p i && (isEntD e && lineB e)))
  | _ => false
def isLetD : PyData → Bool
  | .tuple (d0 :: r) => if strIs noneL d0 = true then decide (r.length = 0) else if strIs partL d0 = true then lpart r else if strIs pieceL d0 = true then lpiece r else false
  | _ => false
/-- what is asked of a value: its first member, its rows -/
def LetSz (d : PyData) : Prop := ∀ ds, d = .tuple ds → (∀ d0, ds[0]? = some d0 → SeqAt.shaped d0 = true) ∧ ∀ e ∈ ds, (∀ es, e = .tuple es → es.length ≤ 300000) ∧ ∀ cs, e = chsD cs → ∀ c ∈ cs, BgC c
theorem bg_rows {d : PyData} (h1 : ∀ es, d = .tuple es → es.length ≤ 300000) (h2 : ∀ cs, d = chsD cs → ∀ c ∈ cs, BgC c) (h : isChsD d = true) : ∃ cs, d = chsD cs ∧ cs.length ≤ 300000 ∧ ∀ c ∈ cs, BgC c := by
  obtain ⟨cs, rfl, _⟩ := chs_of h
  refine ⟨cs, rfl, ?_, h2 cs rfl⟩
  have := h1 _ rfl
  rwa [List.length_map] at this
theorem at_hd (u : V) (us : List V) : atI (u :: us) 0 = some u := atI_nat (j := 0) rfl
def sp_is_letter (K : PySem.W.Frag) : Sp := fun vs H Q _ => ∃ (x : V) (d : PyData), vs = [x] ∧ Dp K H x d ∧ LetSz d ∧ ∀ H', Same H H' → Q (.bl (isLetD d)) H'
theorem shaped_noneL : SeqAt.shaped (.str (S noneL)) = true := shaped_str (by decide)
theorem shaped_partL : SeqAt.shaped (.str (S partL)) = true := shaped_str (by decide)
theorem shaped_pieceL : SeqAt.shaped (.str (S pieceL)) = true := shaped_str (by decide)
theorem ok_is_letter (Y : Fx K mg) : FnOk P w K mg base CX0 5 Y.a_is_letter Y.fd_is_letter ["value"] (sp_is_letter K) := by
  refine Y.F_is_letter.ok sc_is_letter (fun vs H Q E h => ?_) (fun cdv A outer s H vs Q E hr h => ?_)
  · obtain ⟨x, d, rfl, _⟩ := h
    rfl
  · obtain ⟨x, d, rfl, hx, hz, q⟩ := h
    refine ⟨_, b_is_letter Y (ok_are_lines Y) (ok_is_changes Y) (ok_is_entries Y) (ok_is_number Y) hr, ?_⟩
    show t_is_letter K _ _ _ _ _ [some x, none, none, none, none] H
    unfold t_is_letter
    rw [show ("none" : Str) = S noneL from rfl, show ("part" : Str) = S partL from rfl, show ("piece" : Str) = S pieceL from rfl]
    walk_at "rd"
    refine ty_D hx ?_
    cases hx with
    | non =>
      walk_at "rd"
      exact q H (Same.refl H)
    | bl b =>
      walk_at "rd"
      refine iteNdF (show ¬ (("bool" : String) = "tuple") by decide) ?_
      walk_at "rd"
      exact q H (Same.refl H)
    | int i =>
      walk_at "rd"
      refine iteNdF (show ¬ (("int" : String) = "tuple") by decide) ?_
      walk_at "rd"
      exact q H (Same.refl H)
    | str z =>
      walk_at "rd"
      refine iteNdF (show ¬ (("str" : String) = "tuple") by decide) ?_
      walk_at "rd"
      exact q H (Same.refl H)
    | lst h _ =>
      walk_at "rd"
      refine iteNdF (show ¬ (("list" : String) = "tuple") by decide) ?_
      walk_at "rd"
      exact q H (Same.refl H)
    | @tup a us ds hs ha =>
      have hlen := dpAll_len ha
      obtain ⟨z0, z1⟩ := hz ds rfl
      clear hz
      walk_at "rd"
      refine iteNd rfl ?_
      walk_at "rd"
      refine x_truT hs ?_
      cases ha with
      | nil =>
        walk_at "rd"
        exact q H (Same.refl H)
      | @cons u us d0 ds h0 ha =>
        refine iteNt ?_
        have sh0 := z0 d0 rfl
        have hln : us.length = ds.length := dpAll_len ha
        have q' : ∀ H', Same H H' → Q (.bl (if strIs noneL d0 = true then decide (ds.length = 0) else if strIs partL d0 = true then lpart ds else if strIs pieceL d0 = true then lpiece ds else false)) H' := q
        clear q z0
        walk_at "rd"
        refine ix_T hs (at_hd u us) ?_
        walk_at "rd"
        refine e_d h0 (.str _) sh0 shaped_noneL ?_
        rw [eqv_strIs]
        walk_at "rd"
        refine ite2' (fun e0 => ?_) (fun e0 => ?_)
        · rw [if_pos e0] at q'
          walk_at "rd"
          refine ln_t hs ?_
          walk_at "rd"
          have e1 : decide (((u :: us).length : Int) = 1) = decide (ds.length = 0) := decide_eq_decide.mpr (by rw [List.length_cons]; omega)
          rw [e1]
          exact q' H (Same.refl H)
        · rw [if_neg (by rw [e0]; decide)] at q'
          walk_at "rd"
          refine ix_T hs (at_hd u us) ?_
          walk_at "rd"
          refine e_d h0 (.str _) sh0 shaped_partL ?_
          rw [eqv_strIs]
          walk_at "rd"
          refine ite2' (fun e1 => ?_) (fun e1 => ?_)
          · rw [if_pos e1] at q'
            walk_at "rd"
            refine ln_t hs ?_
            walk_at "rd"
            refine ite2' (fun e2 => ?_) (fun e2 => ?_)
            · have e3 : ds.length = 2 := by have := of_decide_eq_true e2; rw [List.length_cons] at this; omega
              obtain ⟨n, c, rfl⟩ : ∃ n c, ds = [n, c] := by
                rcases ds with _ | ⟨a, _ | ⟨b, _ | ⟨c, r⟩⟩⟩
                · cases e3
                · cases e3
                · exact ⟨a, b, rfl⟩
                · simp at e3
              cases ha with
              | cons hn ha =>
                cases ha with
                | cons hc ha =>
                  cases ha
                  rename_i un uc
                  have q2 : ∀ H', Same H H' → Q (.bl (isNumD 1 99999999 n && (isChsD c && lineB c))) H' := q'
                  obtain ⟨c1, c2⟩ := z1 c (by simp)
                  walk_at "rd"
                  refine ix_T hs (by rfl) ?_
                  walk_at "rd"
                  refine ⟨un, n, 1, 99999999, rfl, hn, ?_⟩
                  walk_at "rd"
                  refine ite2' (fun e4 => ?_) (fun e4 => ?_)
                  · rw [e4, Bool.true_and] at q2
                    walk_at "rd"
                    refine ix_T hs (by rfl) ?_
                    walk_at "rd"
                    refine ix_T hs (by rfl) ?_
                    walk_at "rd"
                    refine ⟨uc, c, rfl, hc, c1, fun H1 hS1 => ?_⟩
                    exact ⟨uc, c, isChsD c, rfl, dp_mono hS1 _ _ hc, fun e => bg_rows c1 c2 e, fun H2 hS2 => q2 _ (hS1.trans hS2)⟩
                  · rw [e4, Bool.false_and] at q2
                    exact q2 H (Same.refl H)
            · have e3 : ds.length ≠ 2 := by have := of_decide_eq_false e2; rw [List.length_cons] at this; omega
              have q2 : Q (.bl false) H := by
                have := q' H (Same.refl H)
                rcases ds with _ | ⟨a, _ | ⟨b, _ | ⟨c, r⟩⟩⟩
                · exact this
                · exact this
                · exact absurd rfl e3
                · exact this
              exact q2
          · rw [if_neg (by rw [e1]; decide)] at q'
            walk_at "rd"
            refine ix_T hs (at_hd u us) ?_
            walk_at "rd"
            refine ne_d h0 (.str _) sh0 shaped_pieceL ?_
            rw [eqv_strIs]
            walk_at "rd"
            refine ite2' (fun e2 => ?_) (fun e2 => ?_)
            · rw [Bool.not_eq_true'] at e2
              rw [if_neg (by rw [e2]; decide)] at q'
              walk_at "rd"
              exact q' H (Same.refl H)
            · rw [Bool.not_eq_false'] at e2
              rw [if_pos e2] at q'
              walk_at "rd"
              refine ln_t hs ?_
              walk_at "rd"
              refine ite2' (fun e3 => ?_) (fun e3 => ?_)
              · rw [Bool.not_eq_true'] at e3
                have e4 : ds.length ≠ 4 := by have := of_decide_eq_false e3; rw [List.length_cons] at this; omega
                walk_at "rd"
                have := q' H (Same.refl H)
                rcases ds with _ | ⟨a, _ | ⟨b, _ | ⟨c, _ | ⟨d, _ | ⟨f, r⟩⟩⟩⟩⟩
                · exact this
                · exact this
                · exact this
                · exact this
                · exact absurd rfl e4
                · exact this
              · rw [Bool.not_eq_false'] at e3
                have e4 : ds.length = 4 := by have := of_decide_eq_true e3; rw [List.length_cons] at this; omega
                obtain ⟨n, i, pp, ee, rfl⟩ : ∃ n i p e, ds = [n, i, p, e] := by
                  rcases ds with _ | ⟨a, _ | ⟨b, _ | ⟨c, _ | ⟨d, _ | ⟨f, r⟩⟩⟩⟩⟩
                  · cases e4
                  · cases e4
                  · cases e4
                  · cases e4
                  · exact ⟨a, b, c, d, rfl⟩
                  · simp at e4
                cases ha with
                | cons hn ha =>
                  cases ha with
                  | cons hi ha =>
                    cases ha with
                    | cons hp ha =>
                      cases ha with
                      | cons he ha =>
                        cases ha
                        rename_i un ui up ue
                        have q2 : ∀ H', Same H H' → Q (.bl (isNumD 0 99999999 n && (isNumD 1 9999 pp && (isIdxD pp i && (isEntD ee && lineB ee))))) H' := q'
                        obtain ⟨c1, c2⟩ := z1 ee (by simp)
                        clear q' z1
                        walk_at "rd"
                        refine sl_T hs fun r H1 hS1 hr1 => ?_
                        have hcv : cutV [u, un, ui, up, ue] (some 1) none = [un, ui, up, ue] := cutV_from [u, un, ui, up, ue] 1
                        rw [hcv] at hr1
                        refine gt_T hr1 rfl ?_
                        refine x_gc ?_
                        refine s_gn ?_
                        refine x_gc ?_
                        refine s_gn ?_
                        refine x_gc ?_
                        refine s_gn ?_
                        refine x_gc ?_
                        refine s_gn ?_
                        refine x_gz ?_
                        show tSeq _ _ _ [some (.ref a), some un, some ui, some up, some ue] H1
                        walk_at "rd"
                        refine ⟨un, n, 0, 99999999, rfl, dp_mono hS1 _ _ hn, ?_⟩
                        walk_at "rd"
                        refine ite2' (fun e5 => ?_) (fun e5 => ?_)
                        · rw [Bool.not_eq_true'] at e5
                          rw [e5, Bool.false_and] at q2
                          walk_at "rd"
                          exact q2 _ hS1
                        · rw [Bool.not_eq_false'] at e5
                          rw [e5, Bool.true_and] at q2
                          walk_at "rd"
                          refine ⟨up, pp, 1, 9999, rfl, dp_mono hS1 _ _ hp, ?_⟩
                          walk_at "rd"
                          refine ite2' (fun e6 => ?_) (fun e6 => ?_)
                          · rw [Bool.not_eq_true'] at e6
                            rw [e6, Bool.false_and] at q2
                            walk_at "rd"
                            exact q2 _ hS1
                          · rw [Bool.not_eq_false'] at e6
                            rw [e6, Bool.true_and] at q2
                            obtain ⟨k, rfl⟩ : ∃ k, pp = .int k := by
                              cases pp with
                              | int k => exact ⟨k, rfl⟩
                              | _ => cases e6
                            have eup : up = .int k := dp_int' hp
                            subst eup
                            have q3 : ∀ H', Same H H' → Q (.bl (isNumD 0 (k - 1) i && (isEntD ee && lineB ee))) H' := q2
                            walk_at "rd"
                            refine ⟨ui, i, 0, k - 1, rfl, dp_mono hS1 _ _ hi, ?_⟩
                            walk_at "rd"
                            refine ite2' (fun e7 => ?_) (fun e7 => ?_)
                            · rw [e7, Bool.true_and] at q3
                              walk_at "rd"
                              refine ⟨ue, ee, rfl, dp_mono hS1 _ _ he, c1, fun H2 hS2 => ?_⟩
                              refine ⟨ue, ee, isEntD ee, rfl, dp_mono (hS1.trans hS2) _ _ he, fun e => bg_rows c1 c2 ?_, fun H3 hS3 => q3 _ ((hS1.trans hS2).trans hS3)⟩
                              unfold isEntD at e
                              rw [Bool.and_eq_true] at e
                              exact e.1
                            · rw [e7, Bool.false_and] at q3
                              exact q3 _ hS1
end
end My

set_option Elab.async false
set_option linter.all false
set_option maxRecDepth 100000
set_option maxHeartbeats 1000000
namespace My
open PySem PySem.Spec PyProof.Rows L2
local macro_rules | `(tactic| walk_at "len") => `(tactic| first | assumption | omega | decide | (simp only [List.length_append, List.length_take, List.length_drop, List.length_cons, List.length_nil, List.length_replicate]; omega))
local macro_rules | `(tactic| walk_at "side") => `(tactic| first | assumption | exact Nat.zero_le _ | decide | omega)
local macro_rules | `(tactic| walk_at "rd1") => `(tactic| first
  | with_reducible refine s_seq ?_
  | with_reducible refine x_gsub ?_
  | with_reducible refine s_asg ?_
  | ((with_reducible refine s_gn ?_); dsimp only [List.set])
  | ((with_reducible refine x_var (v := ?rdv) ?rdhv ?_); (case rdhv => rfl))
  | with_reducible refine x_c ?_
  | with_reducible refine x_op ?_
  | with_reducible refine x_cons ?_
  | with_reducible refine x_nil ?_
  | with_reducible refine x_cb ?_
  | with_reducible refine x_call ?_
  | with_reducible refine x_callS ?_
  | with_reducible refine x_revT ?_
  | with_reducible refine x_dget ?_
  | with_reducible refine x_din ?_
  | with_reducible refine x_dnotin ?_
  | with_reducible refine s_dput ?_
  | with_reducible refine x_dnew ?_
  | with_reducible refine s_try ?_
  | with_reducible refine s_raise ?_
  | with_reducible refine s_if ?_
  | with_reducible refine s_ret ?_
  | with_reducible refine s_retN ?_
  | with_reducible refine s_next ?_
  | with_reducible refine s_brk ?_
  | with_reducible refine s_cont ?_
  | with_reducible refine s_drop ?_
  | with_reducible refine s_par ?_
  | with_reducible refine s_par3 ?_
  | ((with_reducible refine s_p2 ?_); dsimp only [List.set])
  | ((with_reducible refine s_p3 ?_); dsimp only [List.set])
  | with_reducible refine f_r1 ?_
  | with_reducible refine f_r2 ?_
  | with_reducible refine f_l ?_
  | with_reducible refine f_t ?_
  | with_reducible refine f_s ?_
  | with_reducible refine c_r1 ?_
  | with_reducible refine c_r2 ?_
  | with_reducible refine c_l ?_
  | with_reducible refine c_t ?_
  | with_reducible refine c_s ?_
  | with_reducible refine x_tst ?_
  | with_reducible refine x_tru ?_
  | with_reducible refine x_truB ?_
  | with_reducible refine x_bl2 ?_
  | with_reducible refine x_int ?_
  | with_reducible refine x_str ?_
  | with_reducible refine x_not ?_
  | with_reducible refine x_and ?_
  | with_reducible refine x_or ?_
  | with_reducible refine x_andV ?_
  | with_reducible refine x_orV ?_
  | with_reducible refine x_notV ?_
  | with_reducible refine x_if ?_
  | with_reducible refine x_yes ?_
  | with_reducible refine x_un ?_
  | with_reducible refine x_tup ?_
  | with_reducible refine x_lst ?_
  | with_reducible refine x_callK ?_
  | with_reducible refine x_callK0 ?_
  | with_reducible refine x_bm ?_
  | with_reducible refine x_bm0 ?_
  | with_reducible refine x_tyS ?_
  | with_reducible refine x_sl ?_
  | with_reducible refine x_nopart ?_
  | with_reducible refine x_part ?_
  | with_reducible refine x_fmt0 ?_
  | with_reducible refine x_gc ?_
  | with_reducible refine x_gz ?_
  | with_reducible refine x_ckw ?_
  | with_reducible refine x_fmt ?_
  | with_reducible refine x_chain ?_
  | with_reducible refine a_ii ?_
  | ((with_reducible refine sl_to ?rda ?rdb ?_); (case rda => walk_at "len"); (case rdb => walk_at "len"))
  | ((with_reducible refine sl_from ?rda ?rdb ?_); (case rda => walk_at "len"); (case rdb => walk_at "len"))
  | ((with_reducible refine sl_mid ?rda ?rdb ?rdc ?_); (case rda => walk_at "len"); (case rdb => walk_at "len"); (case rdc => walk_at "len"))
  | ((with_reducible refine a_SS ?rda ?_); (case rda => walk_at "len"))
  | ((with_reducible refine ln_S ?rda ?_); (case rda => walk_at "len"))
  | with_reducible refine e_SS ?_
  | with_reducible refine ne_SS ?_
  | with_reducible refine s_ii ?_
  | ((with_reducible refine md_ii ?rdc ?_); (case rdc => first | decide | assumption | omega))
  | with_reducible refine n_i ?_
  | with_reducible refine e_ii ?_
  | with_reducible refine e_bb ?_
  | with_reducible refine ne_ii ?_
  | with_reducible refine ne_bb ?_
  | with_reducible refine lt_ii ?_
  | with_reducible refine lt_ss ?_
  | with_reducible refine le_ii ?_
  | with_reducible refine le_ss ?_
  | with_reducible refine gt_ii ?_
  | with_reducible refine gt_ss ?_
  | with_reducible refine ge_ii ?_
  | with_reducible refine e_ss ?_
  | with_reducible refine ne_ss ?_
  | with_reducible refine is_N ?_
  | with_reducible refine is_T ?_
  | with_reducible refine is_B ?_
  | with_reducible refine isn_N ?_
  | with_reducible refine isn_T ?_
  | with_reducible refine isn_B ?_
  | with_reducible refine in_s ?_
  | with_reducible refine nin_s ?_
  | with_reducible refine i_i ?_
  | with_reducible refine i_b ?_
  | with_reducible refine ab_i ?_
  | with_reducible refine mx_ii ?_
  | with_reducible refine mn_ii ?_
  | with_reducible refine ty_N ?_
  | with_reducible refine ty_B ?_
  | with_reducible refine ty_I ?_
  | with_reducible refine ty_S ?_
  | with_reducible refine ma_s ?_
  | with_reducible refine mp_s ?_
  | with_reducible refine mdg_s ?_
  | with_reducible refine mf_s ?_
  | with_reducible refine iteT ?_
  | with_reducible refine iteF ?_
  | with_reducible refine iteNt ?_
  | with_reducible refine iteNf ?_
  | with_reducible refine iteTd (by decide) ?_
  | with_reducible refine iteFd (by decide) ?_
  | with_reducible refine iteNd (by decide) ?_
  | with_reducible refine iteNdF (by decide) ?_
  | ((with_reducible refine iteFd ?rdn ?_); (case rdn => (intro rdz; cases rdz; done)))
  | ((with_reducible refine iteNdF ?rdn ?_); (case rdn => (intro rdz; cases rdz; done))))
local macro_rules | `(tactic| walk_at "rd") => `(tactic| (repeat walk_at "rd1"))
section
variable {P : Program} {w : World} {K : PySem.W.Frag} {mg : Str → Option Value} {base : Heap}
theorem chg_T {c : Ch} (h : isChgD (chD c) = true) : isT c.1 = true ∧ ∀ v, c.2 = some v → isT v = true := by
  obtain ⟨k, o⟩ := c
  cases o with
  | none =>
    have h' : (isT k && (true || false)) = true := h
    rw [Bool.and_eq_true] at h'
    exact ⟨h'.1, fun v e => by cases e⟩
  | some v =>
    have h' : (isT k && (false || isT v)) = true := h
    rw [Bool.and_eq_true] at h'
    exact ⟨h'.1, fun v' e => by cases e; exact h'.2⟩
theorem chs_T {cs : List Ch} (h : isChsD (chsD cs) = true) : ∀ c ∈ cs, ShT c := by
  rw [isChs_eq, Bool.and_eq_true, List.all_eq_true] at h
  exact fun c hc => chg_T (h.1 c hc)
theorem lg_of {cs : List Ch} (h1 : isChsD (chsD cs) = true) (h2 : linesB cs = true) : ∀ c ∈ cs, LgC c := by
  intro c hc
  obtain ⟨t1, t2⟩ := chs_T h1 c hc
  have h3 := List.all_eq_true.mp h2 c hc
  obtain ⟨k, o⟩ := c
  cases o with
  | none =>
    have h4 : (decide (k.length ≤ 9999) && true) = true := h3
    rw [Bool.and_true, decide_eq_true_eq] at h4
    exact ⟨⟨t1, h4⟩, fun v e => by cases e⟩
  | some v =>
    have h4 : (decide (k.length ≤ 9999) && (decide (v.length ≤ 9999) && true)) = true := h3
    rw [Bool.and_true, Bool.and_eq_true, decide_eq_true_eq, decide_eq_true_eq] at h4
    exact ⟨⟨t1, h4.1⟩, fun v' e => by cases e; exact ⟨t2 v rfl, h4.2⟩⟩
theorem lines_of {cs : List Ch} (h : ∀ c ∈ cs, LgC c) : linesB cs = true := List.all_eq_true.mpr fun c hc => by
  obtain ⟨⟨_, h1⟩, h2⟩ := h c hc
  obtain ⟨k, o⟩ := c
  cases o with
  | none =>
    show (decide (k.length ≤ 9999) && true) = true
    rw [decide_eq_true h1]
    rfl
  | some v =>
    show (decide (k.length ≤ 9999) && (decide (v.length ≤ 9999) && true)) = true
    rw [decide_eq_true h1, decide_eq_true (h2 v rfl).2]
    rfl
/-! letters as such -/
inductive Lt where
  | non : Lt
  | part : Nat → List Ch → Lt
  | piece : Nat → Nat → Nat → List Ch → Lt
def letD : Lt → PyData
  | .non => .tuple [.str (S noneL)]
  | .part n cs => .tuple [.str (S partL), .int n, chsD cs]
  | .piece n i p cs => .tuple [.str (S pieceL), .int n, .int i, .int p, chsD cs]
def rowsT (cs : List Ch) : List Nat := (cs.map chT).flatten
def letT : Lt → List Nat
  | .non => [78]
  | .part n cs => [80] ++ pad 8 n ++ rowsT cs
  | .piece n i p cs => [83] ++ pad 8 n ++ pad 4 i ++ pad 4 p ++ rowsT cs
def LtOk : Lt → Prop
  | .non => True
  | .part n cs => 1 ≤ n ∧ n ≤ 99999999 ∧ isChsD (chsD cs) = true ∧ linesB cs = true
  | .piece n i p cs => n ≤ 99999999 ∧ 1 ≤ p ∧ p ≤ 9999 ∧ i < p ∧ isChsD (chsD cs) = true ∧ someB cs = true ∧ linesB cs = true
def rowsN : Lt → List Ch
  | .non => []
  | .part _ cs => cs
  | .piece _ _ _ cs => cs
theorem strIs_self (l : List Nat) : strIs l (.str (S l)) = true := decide_eq_true rfl
theorem strIs_ne {l m : List Nat} (h : m ≠ l) : strIs l (.str (S m)) = false := decide_eq_false fun e => h (S_inj e)
theorem let_ok (L : Lt) : isLetD (letD L) = true ↔ LtOk L := by
  cases L with
  | non => exact ⟨fun _ => True.intro, fun _ => rfl⟩
  | part n cs =>
    have e : isLetD (letD (.part n cs)) = (isNumD 1 99999999 (.int n) && (isChsD (chsD cs) && lineB (chsD cs))) := by
      show (if strIs noneL (.str (S partL)) = true then decide ([PyData.int n, chsD cs].length = 0) else if strIs partL (.str (S partL)) = true then lpart [.int n, chsD cs] else if strIs pieceL (.str (S partL)) = true then lpiece [.int n, chsD cs] else false) = _
      rw [strIs_ne (by decide), if_neg (by decide), strIs_self, if_pos rfl]
      rfl
    rw [e, line_chs]
    have e2 : isNumD 1 99999999 (.int n) = (decide ((1 : Int) ≤ n) && decide ((n : Int) ≤ 99999999)) := rfl
    rw [e2, Bool.and_eq_true, Bool.and_eq_true, Bool.and_eq_true, decide_eq_true_eq, decide_eq_true_eq]
    show _ ↔ (1 ≤ n ∧ n ≤ 99999999 ∧ isChsD (chsD cs) = true ∧ linesB cs = true)
    constructor
    · rintro ⟨⟨h1, h2⟩, h3, h4⟩
      exact ⟨by omega, by omega, h3, h4⟩
    · rintro ⟨h1, h2, h3, h4⟩
      exact ⟨⟨by omega, by omega⟩, h3, h4⟩
  | piece n i p cs =>
    have e : isLetD (letD (.piece n i p cs)) = (isNumD 0 99999999 (.int n) && (isNumD 1 9999 (.int p) && (isNumD 0 ((p : Int) - 1) (.int i) && (isEntD (chsD cs) && lineB (chsD cs))))) := by
      show (if strIs noneL (.str (S pieceL)) = true then decide ([PyData.int n, .int i, .int p, chsD cs].length = 0) else if strIs partL (.str (S pieceL)) = true then lpart [.int n, .int i, .int p, chsD cs] else if strIs pieceL (.str (S pieceL)) = true then lpiece [.int n, .int i, .int p, chsD cs] else false) = _
      rw [strIs_ne (by decide), if_neg (by decide), strIs_ne (by decide), if_neg (by decide), strIs_self, if_pos rfl]
      rfl
    rw [e, line_chs]
    have e2 : isNumD 0 99999999 (.int n) = (decide ((0 : Int) ≤ n) && decide ((n : Int) ≤ 99999999)) := rfl
    have e3 : isNumD 1 9999 (.int p) = (decide ((1 : Int) ≤ p) && decide ((p : Int) ≤ 9999)) := rfl
    have e4 : isNumD 0 ((p : Int) - 1) (.int i) = (decide ((0 : Int) ≤ i) && decide ((i : Int) ≤ (p : Int) - 1)) := rfl
    have e5 : isEntD (chsD cs) = (isChsD (chsD cs) && someB cs) := by unfold isEntD; rw [ent_chs]
    rw [e2, e3, e4, e5]
    simp only [Bool.and_eq_true, decide_eq_true_eq]
    show _ ↔ (n ≤ 99999999 ∧ 1 ≤ p ∧ p ≤ 9999 ∧ i < p ∧ isChsD (chsD cs) = true ∧ someB cs = true ∧ linesB cs = true)
    constructor
    · rintro ⟨⟨h1, h2⟩, ⟨h3, h4⟩, ⟨h5, h6⟩, ⟨h7, h8⟩, h9⟩
      exact ⟨by omega, by omega, by omega, by omega, h7, h8, h9⟩
    · rintro ⟨h1, h2, h3, h4, h5, h6, h7⟩
      exact ⟨⟨by omega, by omega⟩, ⟨by omega, by omega⟩, ⟨by omega, by omega⟩, ⟨h5, h6⟩, h7⟩
/-! refusing, writing -/
def sp_check_letter (x : Addr) (K : PySem.W.Frag) : Sp := fun vs H Q E => ∃ (v : V) (d : PyData), vs = [v] ∧ Dp K H v d ∧ LetSz d ∧ (isLetD d = true → ∀ H', Same H H' → Q .non H') ∧ (isLetD d = false → ∀ H', Same H H' → E (.ref x) none H')
theorem ok_check_letter (Y : Fx K mg) : FnOk P w K mg base (L2.CX P w) 6 Y.a_check_letter Y.fd_check_letter ["letter"] (sp_check_letter Y.x_InvalidLetter K) := by
  refine Y.F_check_letter.okX sc_check_letter (fun vs H Q E h => ?_) (fun cdv A outer s H vs Q E hr h => ?_)
  · obtain ⟨v, d, rfl, _⟩ := h
    rfl
  · obtain ⟨v, d, rfl, hv, hl, q, e⟩ := h
    refine ⟨_, b_check_letter Y (ok_is_letter Y) hr, ?_⟩
    show t_check_letter K Y E _ _ [some v] H
    unfold t_check_letter
    walk_at "rd"
    refine ⟨v, d, rfl, hv, hl, fun H' hS => ?_⟩
    walk_at "rd"
    cases ht : isLetD d with
    | false =>
      walk_at "rd"
      exact e ht H' hS
    | true =>
      refine iteNt ?_
      exact q ht H' hS
theorem j_x {σ : L2.St} {H : Hp} {Q : Str → Hp → Prop} {ts : List TE} {acc : List Nat} {w n : Nat} {p : Addr} {us : List V} {k : Int} (hi : σ[0]? = some (some (.ref p))) (hs : SqT K H p us) (hk : atI us k = some (.int n)) (hn : n < 100000000) (hl : acc.length ≤ 900000) (hw : w ≤ 100) (h : tJs ts (S (acc ++ pad w n)) σ H Q) :
    tJs (tFmt0 w (tOp (rIX K) (tVar 0) (tC (.int k))) :: ts) (S acc) σ H Q := by
  refine x_js ?_
  refine x_fmt0 ?_
  refine x_op ?_
  refine x_var hi ?_
  refine x_c ?_
  refine ix_T hs hk ?_
  have hlog : ((n : Int).natAbs).log2 < 1920 := by
    rw [Int.natAbs_natCast]
    by_cases h0 : n = 0
    · subst h0; decide
    · exact Nat.lt_of_lt_of_le ((Nat.log2_lt h0).mpr (show n < 2 ^ 27 by omega)) (by decide)
  have hp : (pad w n).length ≤ w + 8 := by
    unfold pad
    have h1 := toDigits_len10 (w := 8) (n := n) (by omega) (by decide)
    rw [List.length_append, List.length_replicate, List.length_map]
    omega
  refine ⟨n, rfl, by omega, hlog, ?_⟩
  rw [zpad_S]
  exact ⟨S (pad w n), rfl, by rw [S_app, S_len, List.length_append]; exact big_line (by omega), by rw [S_app]; exact h⟩
theorem rowsT_le {cs : List Ch} (h : ∀ c ∈ cs, LgC c) : (rowsT cs).length ≤ 20100 * cs.length := by
  refine Nat.le_trans (flat_le (n := 20100) fun t ht => ?_) (by rw [List.length_map]; exact Nat.le_refl _)
  obtain ⟨c, hc, rfl⟩ := List.mem_map.mp ht
  exact chT_le (h c hc)
def sp_letter_text (x : Addr) (K : PySem.W.Frag) : Sp := fun vs H Q E => ∃ (v : V) (d : PyData), vs = [v] ∧ Dp K H v d ∧ LetSz d ∧ (isLetD d = true → ∃ L, d = letD L ∧ (rowsN L).length ≤ 20 ∧ ∀ H', Same H H' → Q (.str (S (letT L))) H') ∧ (isLetD d = false → ∀ H', Same H H' → E (.ref x) none H')
theorem pad8_le {n : Nat} (h : n ≤ 99999999) : (pad 8 n).length = 8 := pad_lenW (by decide) (by omega)
theorem ok_letter_text (Y : Fx K mg) : FnOk P w K mg base (L2.CX P w) 7 Y.a_letter_text Y.fd_letter_text ["letter"] (sp_letter_text Y.x_InvalidLetter K) := by
  refine Y.F_letter_text.okX sc_letter_text (fun vs H Q E h => ?_) (fun cdv A outer s H vs Q E hr h => ?_)
  · obtain ⟨v, d, rfl, _⟩ := h
    rfl
  · obtain ⟨v, d, rfl, hv, hl, q, e⟩ := h
    refine ⟨_, b_letter_text Y (sp_check_letter := sp_check_letter Y.x_InvalidLetter) (ok_change_text Y) (ok_check_letter Y) hr, ?_⟩
    show t_letter_text K E _ _ _ [some v, none, none] H
    unfold t_letter_text
    rw [show ("none" : Str) = S noneL from rfl, show ("part" : Str) = S partL from rfl, show ("N" : Str) = S [78] from rfl, show ("P" : Str) = S [80] from rfl, show ("S" : Str) = S [83] from rfl, show ("" : Str) = S [] from rfl, show Str.empty = S [] from rfl]
    walk_at "rd"
    refine ⟨v, d, rfl, hv, hl, fun hd H1 hS1 => ?_, fun hd H1 hS1 => e hd H1 hS1⟩
    obtain ⟨L, rfl, hn, q⟩ := q hd
    have hok := (let_ok L).mp hd
    clear hd e hl
    have rows : ∀ {p : Addr} {us : List V} {k : Nat} {ur : V} {cs : List Ch} {N : TS} {R : VK}, SqT K H1 p us → us.length = k + 1 → us[k]? = some ur → Dp K H1 ur (chsD cs) → (∀ c ∈ cs, LgC c) → cs.length ≤ 20 →
        (∀ H2, Same H1 H2 → N { nx := fun _ H' => Q .non H', rt := Q } [some (.ref p), some (.str (S (rowsT cs))), none] H2) →
        tSeq (tAsg (tBM K "str" (rJoin K) (tC (.str (S []))) (tCons (tLc (iTup K (tOp (rIX K) (tVar 0) (tUn rNEG (tC (.int 1))))) (gName 2) tYes (tCall (sp_change_text K) [] E0 (tCons (tVar 2) tNil)) [2]) tNil)) (gName 1)) N { nx := fun _ H' => Q .non H', rt := Q } [some (.ref p), none, none] H1 := by
      intro p us k ur cs N R hs hl hu hd hg hc q
      obtain ⟨pr, xs, rfl, hpr, ha⟩ := dp_tup' (ds := cs.map chD) hd
      have hxl := dpAll_len ha
      rw [List.length_map] at hxl
      walk_at "rd"
      refine ix_T hs (at_last hl hu) ?_
      refine lcT_mk hpr (fun D i H' => Same H1 H' ∧ H' D = some (.lst (tv ((cs.take i).map chT)))) (fun D hD => ⟨same_upd hD, upd_same⟩) (fun D i H' hD _ hP => same_sqt hP.1 hpr) (fun D i x H' hD hxi hP => ?_) (fun D H' hD hP => ?_)
      · obtain ⟨hS, hH⟩ := hP
        obtain ⟨c, hci, hdc⟩ := all_at ha hxi
        have hi := (List.getElem?_eq_some_iff.mp hci).1
        refine ⟨rfl, ?_⟩
        walk_at "rd"
        refine ⟨x, c, rfl, dp_mono hS _ _ hdc, hg c (List.mem_of_getElem? hci), ?_⟩
        refine ⟨_, hH, Nat.lt_of_le_of_lt (show _ ≤ 200 by rw [tv_len, List.length_map, List.length_take]; omega) (by decide), same_mut hS hD, ?_⟩
        rw [upd_same, take_snoc hci, List.map_append, tv_app]
        rfl
      · obtain ⟨hS, hH⟩ := hP
        rw [hxl, List.take_of_length_le (Nat.le_refl _)] at hH
        have hle := rowsT_le hg
        have hle2 : (rowsT cs).length ≤ 402000 := Nat.le_trans hle (by omega)
        walk_at "rd"
        refine jn_0 (lst_of (by rw [← tv_eq]; exact hH)) (Nat.le_trans hle2 (by decide)) ?_
        refine s_gn ?_
        exact q H' hS
    cases L with
    | non =>
      obtain ⟨p, us, rfl, hp, ha⟩ := dp_tup' (ds := [.str (S noneL)]) hv
      cases ha with
      | cons h0 ha =>
        cases ha
        have := dp_str' h0
        subst this
        walk_at "rd"
        refine ix_T (same_sqt hS1 hp) (by rfl) ?_
        walk_at "rd"
        exact q _ hS1
    | part n cs =>
      obtain ⟨h1, h2, h3, h4⟩ := hok
      obtain ⟨p, u0, u1, u2, rfl, hp, hu0, hu1, hu2⟩ := dp_tup3 (show Dp K H v (.tuple [.str (S partL), .int n, chsD cs]) from hv)
      have := dp_str' hu0
      subst this
      have := dp_int' hu1
      subst this
      have hcl : cs.length ≤ 20 := hn
      walk_at "rd"
      refine ix_T (same_sqt hS1 hp) (by rfl) ?_
      refine x_c ?_
      refine e_SS ?_
      refine ⟨_, rfl, ?_⟩
      refine iteFd (show ¬ partL = noneL by decide) ?_
      refine s_next ?_
      refine rows (R := Q) (same_sqt hS1 hp) (k := 2) rfl rfl (dp_mono hS1 _ _ hu2) (lg_of h3 h4) hcl fun H2 hS2 => ?_
      have hle := rowsT_le (lg_of h3 h4)
      have hle2 : (rowsT cs).length ≤ 402000 := Nat.le_trans hle (by omega)
      have hp2 := same_sqt (hS1.trans hS2) hp
      walk_at "rd"
      refine ix_T hp2 (by rfl) ?_
      walk_at "rd"
      show tJs _ _ _ _ _
      refine j_c (by decide) ?_
      refine j_x rfl hp2 (k := 1) (n := n) (by rfl) (by omega) (by decide) (by decide) ?_
      refine j_v (i := 1) rfl (by simp only [List.length_append, List.length_cons, List.length_nil]; rw [pad8_le h2]; omega) ?_
      refine j_0 ?_
      exact q _ (hS1.trans hS2)
    | piece n i pp cs =>
      obtain ⟨h1, h2, h3, h4, h5, h6, h7⟩ := hok
      obtain ⟨p, us, rfl, hp, ha⟩ := dp_tup' (ds := [.str (S pieceL), .int n, .int i, .int pp, chsD cs]) hv
      obtain ⟨u4, rfl, hu4⟩ : ∃ u4, us = [.str (S pieceL), .int n, .int i, .int pp, u4] ∧ Dp K H u4 (chsD cs) := by
        cases ha with
        | cons a0 ha =>
          cases ha with
          | cons a1 ha =>
            cases ha with
            | cons a2 ha =>
              cases ha with
              | cons a3 ha =>
                cases ha with
                | cons a4 ha =>
                  cases ha
                  rw [dp_str' a0, dp_int' a1, dp_int' a2, dp_int' a3]
                  exact ⟨_, rfl, a4⟩
      have hcl : cs.length ≤ 20 := hn
      walk_at "rd"
      refine ix_T (same_sqt hS1 hp) (by rfl) ?_
      refine x_c ?_
      refine e_SS ?_
      refine ⟨_, rfl, ?_⟩
      refine iteFd (show ¬ pieceL = noneL by decide) ?_
      refine s_next ?_
      refine rows (R := Q) (same_sqt hS1 hp) (k := 4) rfl rfl (dp_mono hS1 _ _ hu4) (lg_of h5 h7) hcl fun H2 hS2 => ?_
      have hle := rowsT_le (lg_of h5 h7)
      have hle2 : (rowsT cs).length ≤ 402000 := Nat.le_trans hle (by omega)
      have hp2 := same_sqt (hS1.trans hS2) hp
      have p4 : (pad 4 i).length = 4 := pad_lenW (by decide) (by omega)
      have p5 : (pad 4 pp).length = 4 := pad_lenW (by decide) (by omega)
      walk_at "rd"
      refine ix_T hp2 (by rfl) ?_
      walk_at "rd"
      show tJs _ _ _ _ _
      refine j_c (by decide) ?_
      refine j_x rfl hp2 (k := 1) (n := n) (by rfl) (by omega) (by decide) (by decide) ?_
      refine j_x rfl hp2 (k := 2) (n := i) (by rfl) (by omega) (by simp only [List.length_append, List.length_cons, List.length_nil]; rw [pad8_le h1]; omega) (by decide) ?_
      refine j_x rfl hp2 (k := 3) (n := pp) (by rfl) (by omega) (by simp only [List.length_append, List.length_cons, List.length_nil]; rw [pad8_le h1, p4]; omega) (by decide) ?_
      refine j_v (i := 1) rfl (by simp only [List.length_append, List.length_cons, List.length_nil]; rw [pad8_le h1, p4, p5]; omega) ?_
      refine j_0 ?_
      exact q _ (hS1.trans hS2)
/-! reading -/
def noD : Option Nat → PyData
  | none => .none
  | some n => .int n
def csD : Option (List Ch) → PyData
  | none => .none
  | some cs => chsD cs
def letF (l : List Nat) : PyData := if l.take 1 = [80] then .tuple [.str (S partL), noD (numAt l 1 8), csD (chsR l l.length 9)] else if l.take 1 = [83] then .tuple [.str (S pieceL), noD (numAt l 1 8), noD (numAt l 9 4), noD (numAt l 13 4), csD (chsR l l.length 17)] else if l = [78] then .tuple [.str (S noneL)] else .none
theorem nv_dp {o : Option Nat} {v : V} (h : NumV o v) (H : Hp) : Dp K H v (noD o) := by
  cases h with
  | some n => exact .int _
  | none => exact .non
theorem cs_dp {H : Hp} {o : Option (List Ch)} {v : V} (h : CsV H o v) : Dp K H v (csD o) := by
  cases o with
  | none => cases h; exact .non
  | some cs =>
    obtain ⟨p, us, rfl, hp, hV⟩ := h
    exact .tup (tup_of hp) hV.dp
def sp_letter_from (K : PySem.W.Frag) : Sp := fun vs H Q _ => ∃ l : List Nat, vs = [.str (S l)] ∧ isT l = true ∧ l.length ≤ 300000 ∧ ∀ v H', Same H H' → Dp K H' v (letF l) → Q v H'
theorem ok_letter_from (Y : Fx K mg) : FnOk P w K mg base CX0 5 Y.a_letter_from Y.fd_letter_from ["text"] (sp_letter_from K) := by
  refine Y.F_letter_from.ok sc_letter_from (fun vs H Q E h => ?_) (fun cdv A outer s H vs Q E hr h => ?_)
  · obtain ⟨l, rfl, _⟩ := h
    rfl
  · obtain ⟨l, rfl, hT, hl, q⟩ := h
    refine ⟨_, b_letter_from Y (ok_changes_told Y) (ok_number_at Y) hr, ?_⟩
    show t_letter_from K _ _ _ [some (.str (S l))] H
    unfold t_letter_from
    rw [show ("none" : Str) = S noneL from rfl, show ("part" : Str) = S partL from rfl, show ("piece" : Str) = S pieceL from rfl, show ("N" : Str) = S [78] from rfl, show ("P" : Str) = S [80] from rfl, show ("S" : Str) = S [83] from rfl]
    unfold letF at q
    walk_at "rd"
    rw [show Int.toNat 1 = 1 from rfl]
    refine ite2' (fun e => ?_) (fun e => ?_)
    · rw [if_pos (of_decide_eq_true e)] at q
      walk_at "rd"
      refine ⟨l, 1, 8, rfl, hT, hl, by decide, fun v1 hv1 => ?_⟩
      walk_at "rd"
      refine ⟨l, 9, rfl, hT, hl, fun v2 H2 hS2 hv2 => ?_⟩
      walk_at "rd"
      refine ⟨by show 3 ≤ sizeLine; decide, fun t ht => ?_⟩
      have S3 := same_upd ht (o := .tup [V.str (S partL), v1, v2])
      exact q _ _ (hS2.trans S3) (.tup (tup_of upd_same) (.cons (.str _) (.cons (nv_dp hv1 _) (.cons (dp_mono S3 _ _ (cs_dp hv2)) .nil))))
    · rw [if_neg (of_decide_eq_false e)] at q
      walk_at "rd"
      rw [show Int.toNat 1 = 1 from rfl]
      refine ite2' (fun e2 => ?_) (fun e2 => ?_)
      · rw [if_pos (of_decide_eq_true e2)] at q
        walk_at "rd"
        refine ⟨l, 1, 8, rfl, hT, hl, by decide, fun v1 hv1 => ?_⟩
        walk_at "rd"
        refine ⟨l, 9, 4, rfl, hT, hl, by decide, fun v2 hv2 => ?_⟩
        walk_at "rd"
        refine ⟨l, 13, 4, rfl, hT, hl, by decide, fun v3 hv3 => ?_⟩
        walk_at "rd"
        refine ⟨l, 17, rfl, hT, hl, fun v4 H2 hS2 hv4 => ?_⟩
        walk_at "rd"
        refine ⟨by show 5 ≤ sizeLine; decide, fun t ht => ?_⟩
        have S3 := same_upd ht (o := .tup [V.str (S pieceL), v1, v2, v3, v4])
        exact q _ _ (hS2.trans S3) (.tup (tup_of upd_same) (.cons (.str _) (.cons (nv_dp hv1 _) (.cons (nv_dp hv2 _) (.cons (nv_dp hv3 _) (.cons (dp_mono S3 _ _ (cs_dp hv4)) .nil))))))
      · rw [if_neg (of_decide_eq_false e2)] at q
        walk_at "rd"
        refine ite2' (fun e3 => ?_) (fun e3 => ?_)
        · rw [if_pos (of_decide_eq_true e3)] at q
          walk_at "rd"
          refine ⟨by show 1 ≤ sizeLine; decide, fun t ht => ?_⟩
          exact q _ _ (same_upd ht) (.tup (tup_of upd_same) (.cons (.str _) .nil))
        · rw [if_neg (of_decide_eq_false e3)] at q
          exact q _ _ (Same.refl H) .non
theorem partR_bg {l : List Nat} {a : Nat} {r : List Nat × Nat} (h : partR l a = some r) : r.1.length ≤ l.length := by
  unfold partR at h
  cases hn : numAt l a 4 with
  | none => rw [hn] at h; cases h
  | some n =>
    rw [hn] at h
    have h' : (if l.length < a + 4 + n then none else some (cutL l (a + 4) (a + 4 + n), a + 4 + n)) = some r := h
    by_cases hl : l.length < a + 4 + n
    · rw [if_pos hl] at h'; cases h'
    · rw [if_neg hl] at h'
      cases h'
      show ((l.take _).drop _).length ≤ _
      rw [List.length_drop, List.length_take]
      omega
theorem chgR_bg {l : List Nat} {a : Nat} {r : Ch × Nat} (h : chgR l a = some r) (hl : l.length ≤ 300000) : BgC r.1 := by
  unfold chgR at h
  cases h1 : partR l (a + 1) with
  | none => rw [h1] at h; cases h
  | some r1 =>
    have b1 := partR_bg h1
    rw [h1] at h
    have h' : (if l[a]? = some 45 then some ((r1.1, none), r1.2) else match partR l r1.2 with
      | none => none
      | some r2 => if l[a]? = some 43 then some ((r1.1, some r2.1), r2.2) else none) = some r := h
    by_cases h2 : l[a]? = some 45
    · rw [if_pos h2] at h'
      cases h'
      exact ⟨by show r1.1.length ≤ _; omega, fun v e => by cases e⟩
    · rw [if_neg h2] at h'
      cases h3 : partR l r1.2 with
      | none => rw [h3] at h'; cases h'
      | some r2 =>
        have b2 := partR_bg h3
        rw [h3] at h'
        have h4 : (if l[a]? = some 43 then some ((r1.1, some r2.1), r2.2) else none) = some r := h'
        by_cases h5 : l[a]? = some 43
        · rw [if_pos h5] at h4
          cases h4
          exact ⟨by show r1.1.length ≤ _; omega, fun v e => by cases e; omega⟩
        · rw [if_neg h5] at h4; cases h4
theorem chsR_bg {l : List Nat} (hl : l.length ≤ 300000) : ∀ (n a : Nat) (cs : List Ch), chsR l n a = some cs → ∀ c ∈ cs, BgC c
  | 0, a, cs, h => by cases h; exact fun _ h => by cases h
  | n + 1, a, cs, h => by
    rw [chsR] at h
    by_cases ha : a < l.length
    · rw [if_pos ha] at h
      cases hc : chgR l a with
      | none => rw [hc] at h; cases h
      | some r =>
        rw [hc] at h
        have h' : (chsR l n r.2).map (r.1 :: ·) = some cs := h
        cases hr : chsR l n r.2 with
        | none => rw [hr] at h'; cases h'
        | some rs =>
          rw [hr] at h'
          have e : r.1 :: rs = cs := Option.some.inj h'
          subst e
          intro c hcm
          rcases List.mem_cons.mp hcm with rfl | hcm
          · exact chgR_bg hc hl
          · exact chsR_bg hl n r.2 rs hr c hcm
    · rw [if_neg ha] at h; cases h; exact fun _ h => by cases h
theorem chs_inj {cs ds : List Ch} (h : chsD cs = chsD ds) : cs = ds := by
  have h2 : cs.map chD = ds.map chD := PyData.tuple.inj h
  have inj : ∀ a b : Ch, chD a = chD b → a = b := by
    intro a b h
    obtain ⟨k, o⟩ := a
    obtain ⟨l, q⟩ := b
    have h3 := PyData.tuple.inj h
    have e1 : S k = S l := PyData.str.inj (List.cons.inj h3).1
    have e2 : vlD o = vlD q := (List.cons.inj (List.cons.inj h3).2).1
    rw [S_inj e1]
    cases o with
    | none =>
      cases q with
      | none => rfl
      | some v => cases e2
    | some u =>
      cases q with
      | none => cases e2
      | some v =>
        have e3 : S u = S v := PyData.str.inj e2
        rw [S_inj e3]
  exact (List.map_inj_right inj).mp h2
theorem letF_sz {l : List Nat} (hl : l.length ≤ 300000) : LetSz (letF l) := by
  have one : ∀ o : Option Nat, (∀ es, noD o = .tuple es → es.length ≤ 300000) ∧ ∀ cs, noD o = chsD cs → ∀ c ∈ cs, BgC c := fun o => by
    cases o with
    | none => exact ⟨fun es e => (by cases e), fun cs e => (by cases e)⟩
    | some n => exact ⟨fun es e => (by cases e), fun cs e => (by cases e)⟩
  have two : ∀ a, (∀ es, csD (chsR l l.length a) = .tuple es → es.length ≤ 300000) ∧ ∀ cs, csD (chsR l l.length a) = chsD cs → ∀ c ∈ cs, BgC c := fun a => by
    cases h : chsR l l.length a with
    | none => exact ⟨fun es e => (by cases e), fun cs e => (by cases e)⟩
    | some cs =>
      refine ⟨fun es e => ?_, fun cs' e => ?_⟩
      · have := chsR_len _ _ _ h
        cases e
        rw [List.length_map]
        omega
      · rw [← chs_inj e]
        exact chsR_bg hl _ _ _ h
  have str : ∀ z : Str, (∀ es, PyData.str z = .tuple es → es.length ≤ 300000) ∧ ∀ cs, PyData.str z = chsD cs → ∀ c ∈ cs, BgC c := fun z => ⟨fun es e => (by cases e), fun cs e => (by cases e)⟩
  unfold letF
  by_cases h1 : l.take 1 = [80]
  · rw [if_pos h1]
    intro ds e
    cases e
    refine ⟨fun d0 e => by cases e; exact shaped_partL, fun e he => ?_⟩
    rcases List.mem_cons.mp he with rfl | he
    · exact str _
    rcases List.mem_cons.mp he with rfl | he
    · exact one _
    rw [List.mem_singleton.mp he]
    exact two _
  · rw [if_neg h1]
    by_cases h2 : l.take 1 = [83]
    · rw [if_pos h2]
      intro ds e
      cases e
      refine ⟨fun d0 e => by cases e; exact shaped_pieceL, fun e he => ?_⟩
      rcases List.mem_cons.mp he with rfl | he
      · exact str _
      rcases List.mem_cons.mp he with rfl | he
      · exact one _
      rcases List.mem_cons.mp he with rfl | he
      · exact one _
      rcases List.mem_cons.mp he with rfl | he
      · exact one _
      rw [List.mem_singleton.mp he]
      exact two _
    · rw [if_neg h2]
      by_cases h3 : l = [78]
      · rw [if_pos h3]
        intro ds e
        cases e
        refine ⟨fun d0 e => by cases e; exact shaped_noneL, fun e he => ?_⟩
        rw [List.mem_singleton.mp he]
        exact str _
      · rw [if_neg h3]
        intro ds e
        cases e
def sp_letter_told (x y : Addr) (K : PySem.W.Frag) : Sp := fun vs H Q E => ∃ (v : V) (d : PyData), vs = [v] ∧ Dp K H v d ∧ (∀ l, d = .str (S l) → isT l = true → l.length ≤ 300000 ∧ (isLetD (letF l) = true → ∀ v' H', Same H H' → Dp K H' v' (letF l) → Q v' H') ∧ (isLetD (letF l) = false → ∀ H', Same H H' → E (.ref y) none H')) ∧ (isTxD d = false → E (.ref x) none H)
theorem ok_letter_told (Y : Fx K mg) : FnOk P w K mg base (L2.CX P w) 7 Y.a_letter_told Y.fd_letter_told ["text"] (sp_letter_told Y.x_InvalidText Y.x_InvalidLetter K) := by
  refine Y.F_letter_told.okX sc_letter_told (fun vs H Q E h => ?_) (fun cdv A outer s H vs Q E hr h => ?_)
  · obtain ⟨v, d, rfl, _⟩ := h
    rfl
  · obtain ⟨v, d, rfl, hv, q, e⟩ := h
    refine ⟨_, b_letter_told Y (sp_check_letter := sp_check_letter Y.x_InvalidLetter) (sp_check_text := sp_check_text Y.x_InvalidText) (ok_check_letter Y) (ok_check_text Y) (ok_letter_from Y) hr, ?_⟩
    show t_letter_told K E _ _ _ _ [some v, none] H
    unfold t_letter_told
    walk_at "rd"
    refine ⟨v, d, rfl, hv, fun hT => ?_, fun hT => e hT⟩
    obtain ⟨l, rfl⟩ : ∃ l, d = .str (S l) := by
      cases d with
      | str z => exact ⟨z.cps.toList, by rw [← S_eta z]⟩
      | _ => cases hT
    have ev : v = .str (S l) := dp_str' hv
    subst ev
    have hT' : isT l = true := hT
    obtain ⟨hl, q1, q2⟩ := q l rfl hT'
    walk_at "rd"
    refine ⟨l, rfl, hT', hl, fun v' H1 hS1 hv' => ?_⟩
    refine s_gn ?_
    show tSeq _ _ _ [some (.str (S l)), some v'] H1
    walk_at "rd"
    refine ⟨v', _, rfl, hv', letF_sz hl, fun hd H2 hS2 => ?_, fun hd H2 hS2 => q2 hd _ (hS1.trans hS2)⟩
    walk_at "rd"
    exact q1 hd _ _ (hS1.trans hS2) (dp_mono hS2 _ _ hv')
end
end My

set_option Elab.async false
set_option linter.all false
set_option maxRecDepth 100000
set_option maxHeartbeats 1000000
namespace My
open PySem PySem.Spec PyProof.Rows L2
local macro_rules | `(tactic| walk_at "len") => `(tactic| first | assumption | omega | decide | (simp only [List.length_append, List.length_take, List.length_drop, List.length_cons, List.length_nil, List.length_replicate]; omega))
local macro_rules | `(tactic| walk_at "side") => `(tactic| first | assumption | exact Nat.zero_le _ | decide | omega)
local macro_rules | `(tactic| walk_at "rd1") => `(tactic| first
  | with_reducible refine s_seq ?_
  | with_reducible refine x_gsub ?_
  | with_reducible refine s_asg ?_
  | ((with_reducible refine s_gn ?_); dsimp only [List.set])
  | ((with_reducible refine x_var (v := ?rdv) ?rdhv ?_); (case rdhv => rfl))
  | with_reducible refine x_c ?_
  | with_reducible refine x_op ?_
  | with_reducible refine x_cons ?_
  | with_reducible refine x_nil ?_
  | with_reducible refine x_cb ?_
  | with_reducible refine x_call ?_
  | with_reducible refine x_callS ?_
  | with_reducible refine x_revT ?_
  | with_reducible refine x_dget ?_
  | with_reducible refine x_din ?_
  | with_reducible refine x_dnotin ?_
  | with_reducible refine s_dput ?_
  | with_reducible refine x_dnew ?_
  | with_reducible refine s_try ?_
  | with_reducible refine s_raise ?_
  | with_reducible refine s_if ?_
  | with_reducible refine s_ret ?_
  | with_reducible refine s_retN ?_
  | with_reducible refine s_next ?_
  | with_reducible refine s_brk ?_
  | with_reducible refine s_cont ?_
  | with_reducible refine s_drop ?_
  | with_reducible refine s_par ?_
  | with_reducible refine s_par3 ?_
  | ((with_reducible refine s_p2 ?_); dsimp only [List.set])
  | ((with_reducible refine s_p3 ?_); dsimp only [List.set])
  | with_reducible refine f_r1 ?_
  | with_reducible refine f_r2 ?_
  | with_reducible refine f_l ?_
  | with_reducible refine f_t ?_
  | with_reducible refine f_s ?_
  | with_reducible refine c_r1 ?_
  | with_reducible refine c_r2 ?_
  | with_reducible refine c_l ?_
  | with_reducible refine c_t ?_
  | with_reducible refine c_s ?_
  | with_reducible refine x_tst ?_
  | with_reducible refine x_tru ?_
  | with_reducible refine x_truB ?_
  | with_reducible refine x_bl2 ?_
  | with_reducible refine x_int ?_
  | with_reducible refine x_str ?_
  | with_reducible refine x_not ?_
  | with_reducible refine x_and ?_
  | with_reducible refine x_or ?_
  | with_reducible refine x_andV ?_
  | with_reducible refine x_orV ?_
  | with_reducible refine x_notV ?_
  | with_reducible refine x_if ?_
  | with_reducible refine x_yes ?_
  | with_reducible refine x_un ?_
  | with_reducible refine x_tup ?_
  | with_reducible refine x_lst ?_
  | with_reducible refine x_callK ?_
  | with_reducible refine x_callK0 ?_
  | with_reducible refine x_bm ?_
  | with_reducible refine x_bm0 ?_
  | with_reducible refine x_tyS ?_
  | with_reducible refine x_sl ?_
  | with_reducible refine x_nopart ?_
  | with_reducible refine x_part ?_
  | with_reducible refine x_fmt0 ?_
  | with_reducible refine x_gc ?_
  | with_reducible refine x_gz ?_
  | with_reducible refine x_ckw ?_
  | with_reducible refine x_fmt ?_
  | with_reducible refine x_chain ?_
  | with_reducible refine a_ii ?_
  | ((with_reducible refine sl_to ?rda ?rdb ?_); (case rda => walk_at "len"); (case rdb => walk_at "len"))
  | ((with_reducible refine sl_from ?rda ?rdb ?_); (case rda => walk_at "len"); (case rdb => walk_at "len"))
  | ((with_reducible refine sl_mid ?rda ?rdb ?rdc ?_); (case rda => walk_at "len"); (case rdb => walk_at "len"); (case rdc => walk_at "len"))
  | ((with_reducible refine a_SS ?rda ?_); (case rda => walk_at "len"))
  | ((with_reducible refine ln_S ?rda ?_); (case rda => walk_at "len"))
  | with_reducible refine e_SS ?_
  | with_reducible refine ne_SS ?_
  | with_reducible refine s_ii ?_
  | ((with_reducible refine md_ii ?rdc ?_); (case rdc => first | decide | assumption | omega))
  | with_reducible refine n_i ?_
  | with_reducible refine e_ii ?_
  | with_reducible refine e_bb ?_
  | with_reducible refine ne_ii ?_
  | with_reducible refine ne_bb ?_
  | with_reducible refine lt_ii ?_
  | with_reducible refine lt_ss ?_
  | with_reducible refine le_ii ?_
  | with_reducible refine le_ss ?_
  | with_reducible refine gt_ii ?_
  | with_reducible refine gt_ss ?_
  | with_reducible refine ge_ii ?_
  | with_reducible refine e_ss ?_
  | with_reducible refine ne_ss ?_
  | with_reducible refine is_N ?_
  | with_reducible refine is_T ?_
  | with_reducible refine is_B ?_
  | with_reducible refine isn_N ?_
  | with_reducible refine isn_T ?_
  | with_reducible refine isn_B ?_
  | with_reducible refine in_s ?_
  | with_reducible refine nin_s ?_
  | with_reducible refine i_i ?_
  | with_reducible refine i_b ?_
  | with_reducible refine ab_i ?_
  | with_reducible refine mx_ii ?_
  | with_reducible refine mn_ii ?_
  | with_reducible refine ty_N ?_
  | with_reducible refine ty_B ?_
  | with_reducible refine ty_I ?_
  | with_reducible refine ty_S ?_
  | with_reducible refine ma_s ?_
  | with_reducible refine mp_s ?_
  | with_reducible refine mdg_s ?_
  | with_reducible refine mf_s ?_
  | with_reducible refine iteT ?_
  | with_reducible refine iteF ?_
  | with_reducible refine iteNt ?_
  | with_reducible refine iteNf ?_
  | with_reducible refine iteTd (by decide) ?_
  | with_reducible refine iteFd (by decide) ?_
  | with_reducible refine iteNd (by decide) ?_
  | with_reducible refine iteNdF (by decide) ?_
  | ((with_reducible refine iteFd ?rdn ?_); (case rdn => (intro rdz; cases rdz; done)))
  | ((with_reducible refine iteNdF ?rdn ?_); (case rdn => (intro rdz; cases rdz; done))))
local macro_rules | `(tactic| walk_at "rd") => `(tactic| (repeat walk_at "rd1"))
section
variable {P : Program} {w : World} {K : PySem.W.Frag} {mg : Str → Option Value} {base : Heap}
theorem numL_pow : ∀ (w n : Nat), n < 10 ^ w → TL.numL (10 ^ w + n) = 49 :: figs w n
  | 0, n, h => by
    have : n = 0 := by rw [Nat.pow_zero] at h; omega
    subst this
    exact TL.numL_lt (by decide)
  | w + 1, n, h => by
    have hp : 0 < 10 ^ w := Nat.pow_pos (by decide)
    have e : 10 ^ (w + 1) = 10 ^ w * 10 := Nat.pow_succ ..
    rw [TL.numL_step (by omega), show (10 ^ (w + 1) + n) / 10 = 10 ^ w + n / 10 by omega, show (10 ^ (w + 1) + n) % 10 = n % 10 by omega, numL_pow w (n / 10) (by omega)]
    rfl
theorem pad4_of {n : Nat} (h : n < 10000) : (TL.numL (10000 + n)).drop (Int.toNat 1) = pad 4 n := by
  rw [show 10000 + n = 10 ^ 4 + n from rfl, numL_pow 4 n h, pad_figs 4 n h (by decide)]
  rfl
theorem numL4_len {n : Nat} (h : n < 10000) : (TL.numL (10000 + n)).length ≤ 5 := TL.numL_len (by decide) (by omega)
def sp__law_rows (K : PySem.W.Frag) : Sp := fun vs H Q _ => ∃ (x : V) (cs : List Ch), vs = [x] ∧ Dp K H x (chsD cs) ∧ (∀ c ∈ cs, TxC c) ∧ cs.length ≤ 20 ∧ Q (.str (S (cs.map chT).flatten)) H
theorem ok__law_rows (Y : Fx K mg) : FnOk P w K mg base CX0 1 Y.a__law_rows Y.fd__law_rows ["_law_changes_here"] (sp__law_rows K) := by
  refine Y.F__law_rows.ok sc__law_rows (fun vs H Q E h => ?_) (fun cdv A outer s H vs Q E hr h => ?_)
  · obtain ⟨x, cs, rfl, _⟩ := h
    rfl
  · obtain ⟨x, cs, rfl, hx, hcs, hcl, q⟩ := h
    refine ⟨_, b__law_rows Y hr, ?_⟩
    show t__law_rows K _ [some x, none, none, none] H
    unfold t__law_rows
    rw [show ("-" : Str) = S [45] from rfl, show ("+" : Str) = S [43] from rfl, show ("" : Str) = S [] from rfl]
    cases hx with
    | tup hsx hax =>
      rename_i px xs
      have hlx := dpAll_len hax
      rw [List.length_map] at hlx
      walk_at "rd"
      refine forT_mk hsx (fun i σ H' => ∃ y2 y3 : Option V, σ = [some (.ref px), some (.str (S ((cs.take i).map chT).flatten)), y2, y3] ∧ H' = H) ⟨_, _, rfl, rfl⟩ (fun i σ H' _ hV => by obtain ⟨_, _, _, rfl⟩ := hV; exact hsx) (fun i x σ H' hx hV => ?_) (fun σ H' hV => ?_)
      · obtain ⟨y2, y3, rfl, rfl⟩ := hV
        obtain ⟨c, hc, hdc⟩ := all_at hax hx
        have hi := (List.getElem?_eq_some_iff.mp hc).1
        have tc := hcs c (List.mem_of_getElem? hc)
        obtain ⟨p, rfl, hp⟩ := dp_ch hdc
        have hacc : ((cs.take i).map chT).flatten.length ≤ 20100 * 20 := by
          refine Nat.le_trans (flat_le (n := 20100) fun t ht => ?_) (Nat.mul_le_mul (Nat.le_refl _) (show _ ≤ 20 by rw [List.length_map, List.length_take]; omega))
          obtain ⟨e, he, rfl⟩ := List.mem_map.mp ht
          exact chT_le (hcs e (List.mem_of_mem_take he))
        have hnew : ((cs.take (i + 1)).map chT).flatten = ((cs.take i).map chT).flatten ++ chT c := by
          rw [take_snoc hc, List.map_append, List.flatten_append]
          show _ ++ (chT c ++ []) = _
          rw [List.append_nil]
        generalize ((cs.take i).map chT).flatten = acc at hacc hnew
        refine gt_T hp rfl ?_
        refine x_gc ?_
        refine s_gn ?_
        refine x_gc ?_
        refine s_gn ?_
        refine x_gz ?_
        obtain ⟨k, o⟩ := c
        obtain ⟨⟨_, hk'⟩, hv⟩ := tc
        have hk : k.length ≤ 9999 := hk'
        have n4 := numL4_len (n := k.length) (by omega)
        have p4 : (pad 4 k.length).length = 4 := pad_lenW (by decide) (by omega)
        cases o with
        | none =>
          show tIfS _ _ _ _ [some (.ref px), some (.str (S acc)), some (.str (S k)), some .non] H'
          walk_at "rd"
          rw [show (10000 : Int) + (k.length : Int) = ((10000 + k.length : Nat) : Int) by omega]
          refine st_i (log_small (by omega)) ?_
          rw [show (toString ((10000 + k.length : Nat) : Int) : Str) = S (TL.numL (10000 + k.length)) from SX.num_S _]
          walk_at "rd"
          rw [pad4_of (by omega)]
          walk_at "rd"
          refine ⟨some (.str (S k)), some .non, ?_, rfl⟩
          rw [hnew]
          show [some (V.ref px), some (.str (S (acc ++ [45] ++ pad 4 k.length ++ k))), some (.str (S k)), some .non] = [some (V.ref px), some (.str (S (acc ++ ([45] ++ pad 4 k.length ++ k)))), some (.str (S k)), some .non]
          simp only [List.append_assoc]
        | some v =>
          have hv2 := (hv v rfl).2
          have n4v := numL4_len (n := v.length) (by omega)
          have p4v : (pad 4 v.length).length = 4 := pad_lenW (by decide) (by omega)
          show tIfS _ _ _ _ [some (.ref px), some (.str (S acc)), some (.str (S k)), some (.str (S v))] H'
          walk_at "rd"
          rw [show (10000 : Int) + (k.length : Int) = ((10000 + k.length : Nat) : Int) by omega]
          refine st_i (log_small (by omega)) ?_
          rw [show (toString ((10000 + k.length : Nat) : Int) : Str) = S (TL.numL (10000 + k.length)) from SX.num_S _]
          walk_at "rd"
          rw [pad4_of (by omega)]
          walk_at "rd"
          rw [show (10000 : Int) + (v.length : Int) = ((10000 + v.length : Nat) : Int) by omega]
          refine st_i (log_small (by omega)) ?_
          rw [show (toString ((10000 + v.length : Nat) : Int) : Str) = S (TL.numL (10000 + v.length)) from SX.num_S _]
          walk_at "rd"
          rw [pad4_of (by omega)]
          walk_at "rd"
          refine ⟨some (.str (S k)), some (.str (S v)), ?_, rfl⟩
          rw [hnew]
          show [some (V.ref px), some (.str (S (acc ++ [43] ++ pad 4 k.length ++ k ++ pad 4 v.length ++ v))), some (.str (S k)), some (.str (S v))] = [some (V.ref px), some (.str (S (acc ++ ([43] ++ pad 4 k.length ++ k ++ pad 4 v.length ++ v)))), some (.str (S k)), some (.str (S v))]
          simp only [List.append_assoc]
      · obtain ⟨y2, y3, rfl, rfl⟩ := hV
        rw [hlx, List.take_of_length_le (Nat.le_refl _)]
        walk_at "rd"
        exact q
end
end My

set_option Elab.async false
set_option linter.all false
set_option maxRecDepth 100000
set_option maxHeartbeats 1000000
namespace My
open PySem PySem.Spec PyProof.Rows L2
local macro_rules | `(tactic| walk_at "len") => `(tactic| first | assumption | omega | decide | (simp only [List.length_append, List.length_take, List.length_drop, List.length_cons, List.length_nil, List.length_replicate]; omega))
local macro_rules | `(tactic| walk_at "side") => `(tactic| first | assumption | exact Nat.zero_le _ | decide | omega)
local macro_rules | `(tactic| walk_at "rd1") => `(tactic| first
  | with_reducible refine s_seq ?_
  | with_reducible refine x_gsub ?_
  | with_reducible refine s_asg ?_
  | ((with_reducible refine s_gn ?_); dsimp only [List.set])
  | ((with_reducible refine x_var (v := ?rdv) ?rdhv ?_); (case rdhv => rfl))
  | with_reducible refine x_c ?_
  | with_reducible refine x_op ?_
  | with_reducible refine x_cons ?_
  | with_reducible refine x_nil ?_
  | with_reducible refine x_cb ?_
  | with_reducible refine x_call ?_
  | with_reducible refine x_callS ?_
  | with_reducible refine x_revT ?_
  | with_reducible refine x_dget ?_
  | with_reducible refine x_din ?_
  | with_reducible refine x_dnotin ?_
  | with_reducible refine s_dput ?_
  | with_reducible refine x_dnew ?_
  | with_reducible refine s_try ?_
  | with_reducible refine s_raise ?_
  | with_reducible refine s_if ?_
  | with_reducible refine s_ret ?_
  | with_reducible refine s_retN ?_
  | with_reducible refine s_next ?_
  | with_reducible refine s_brk ?_
  | with_reducible refine s_cont ?_
  | with_reducible refine s_drop ?_
  | with_reducible refine s_par ?_
  | with_reducible refine s_par3 ?_
  | ((with_reducible refine s_p2 ?_); dsimp only [List.set])
  | ((with_reducible refine s_p3 ?_); dsimp only [List.set])
  | with_reducible refine f_r1 ?_
  | with_reducible refine f_r2 ?_
  | with_reducible refine f_l ?_
  | with_reducible refine f_t ?_
  | with_reducible refine f_s ?_
  | with_reducible refine c_r1 ?_
  | with_reducible refine c_r2 ?_
  | with_reducible refine c_l ?_
  | with_reducible refine c_t ?_
  | with_reducible refine c_s ?_
  | with_reducible refine x_tst ?_
  | with_reducible refine x_tru ?_
  | with_reducible refine x_truB ?_
  | with_reducible refine x_bl2 ?_
  | with_reducible refine x_int ?_
  | with_reducible refine x_str ?_
  | with_reducible refine x_not ?_
  | with_reducible refine x_and ?_
  | with_reducible refine x_or ?_
  | with_reducible refine x_andV ?_
  | with_reducible refine x_orV ?_
  | with_reducible refine x_notV ?_
  | with_reducible refine x_if ?_
  | with_reducible refine x_yes ?_
  | with_reducible refine x_un ?_
  | with_reducible refine x_tup ?_
  | with_reducible refine x_lst ?_
  | with_reducible refine x_callK ?_
  | with_reducible refine x_callK0 ?_
  | with_reducible refine x_bm ?_
  | with_reducible refine x_bm0 ?_
  | with_reducible refine x_tyS ?_
  | with_reducible refine x_sl ?_
  | with_reducible refine x_nopart ?_
  | with_reducible refine x_part ?_
  | with_reducible refine x_fmt0 ?_
  | with_reducible refine x_gc ?_
  | with_reducible refine x_gz ?_
  | with_reducible refine x_ckw ?_
  | with_reducible refine x_fmt ?_
  | with_reducible refine x_chain ?_
  | with_reducible refine a_ii ?_
  | ((with_reducible refine sl_to ?rda ?rdb ?_); (case rda => walk_at "len"); (case rdb => walk_at "len"))
  | ((with_reducible refine sl_from ?rda ?rdb ?_); (case rda => walk_at "len"); (case rdb => walk_at "len"))
  | ((with_reducible refine sl_mid ?rda ?rdb ?rdc ?_); (case rda => walk_at "len"); (case rdb => walk_at "len"); (case rdc => walk_at "len"))
  | ((with_reducible refine a_SS ?rda ?_); (case rda => walk_at "len"))
  | ((with_reducible refine ln_S ?rda ?_); (case rda => walk_at "len"))
  | with_reducible refine e_SS ?_
  | with_reducible refine ne_SS ?_
  | with_reducible refine s_ii ?_
  | ((with_reducible refine md_ii ?rdc ?_); (case rdc => first | decide | assumption | omega))
  | with_reducible refine n_i ?_
  | with_reducible refine e_ii ?_
  | with_reducible refine e_bb ?_
  | with_reducible refine ne_ii ?_
  | with_reducible refine ne_bb ?_
  | with_reducible refine lt_ii ?_
  | with_reducible refine lt_ss ?_
  | with_reducible refine le_ii ?_
  | with_reducible refine le_ss ?_
  | with_reducible refine gt_ii ?_
  | with_reducible refine gt_ss ?_
  | with_reducible refine ge_ii ?_
  | with_reducible refine e_ss ?_
  | with_reducible refine ne_ss ?_
  | with_reducible refine is_N ?_
  | with_reducible refine is_T ?_
  | with_reducible refine is_B ?_
  | with_reducible refine isn_N ?_
  | with_reducible refine isn_T ?_
  | with_reducible refine isn_B ?_
  | with_reducible refine in_s ?_
  | with_reducible refine nin_s ?_
  | with_reducible refine i_i ?_
  | with_reducible refine i_b ?_
  | with_reducible refine ab_i ?_
  | with_reducible refine mx_ii ?_
  | with_reducible refine mn_ii ?_
  | with_reducible refine ty_N ?_
  | with_reducible refine ty_B ?_
  | with_reducible refine ty_I ?_
  | with_reducible refine ty_S ?_
  | with_reducible refine ma_s ?_
  | with_reducible refine mp_s ?_
  | with_reducible refine mdg_s ?_
  | with_reducible refine mf_s ?_
  | with_reducible refine iteT ?_
  | with_reducible refine iteF ?_
  | with_reducible refine iteNt ?_
  | with_reducible refine iteNf ?_
  | with_reducible refine iteTd (by decide) ?_
  | with_reducible refine iteFd (by decide) ?_
  | with_reducible refine iteNd (by decide) ?_
  | with_reducible refine iteNdF (by decide) ?_
  | ((with_reducible refine iteFd ?rdn ?_); (case rdn => (intro rdz; cases rdz; done)))
  | ((with_reducible refine iteNdF ?rdn ?_); (case rdn => (intro rdz; cases rdz; done))))
local macro_rules | `(tactic| walk_at "rd") => `(tactic| (repeat walk_at "rd1"))
section
variable {P : Program} {w : World} {K : PySem.W.Frag} {mg : Str → Option Value} {base : Heap}
def sigL : List Nat := menu1 ++ menu2
theorem sig_T : isT sigL = true := by decide
def sp__law_sign (K : PySem.W.Frag) : Sp := fun vs H Q _ => ∃ j : Addr, vs = [.ref j] ∧ JarAt H j ∧ ∀ c H', isT [c] = true → JarAt H' j → Fr j H H' → Q (.str (S [c])) H'
theorem ok__law_sign (Y : Fx K mg) : FnOk P w K mg base CX0 2 Y.a__law_sign Y.fd__law_sign ["_law_well_here"] (sp__law_sign K) := by
  refine Y.F__law_sign.ok sc__law_sign (fun vs H Q E h => ?_) (fun cdv A outer st H vs Q E hr h => ?_)
  · obtain ⟨j, rfl, _⟩ := h
    rfl
  · obtain ⟨j, rfl, hJ, q⟩ := h
    refine ⟨_, b__law_sign Y (ok__law_draw Y) hr, ?_⟩
    show t__law_sign K _ _ [some (.ref j), none] H
    unfold t__law_sign
    rw [show (" !\"#$&'()*+,-./0123456789:;<=>?@ABCDEFGHIJKLMNOPQRSTUVWXYZ[\\]^_`" : Str) = S menu1 from rfl, show ("abcdefghijklmnopqrstuvwxyz{|}~" : Str) = S menu2 from rfl]
    walk_at "rd"
    refine ⟨j, 94, rfl, hJ, by decide, by decide, fun r H1 r0 r1 hJ1 hF1 => ?_⟩
    refine ix_SS r0 (by show r < 94; exact r1) (by decide) fun c hc => ?_
    exact q c _ (isT_get sig_T hc) hJ1 hF1
def sp__law_text (K : PySem.W.Frag) : Sp := fun vs H Q _ => ∃ (j : Addr) (n : Nat), vs = [.ref j, .int n] ∧ n ≤ 1000 ∧ JarAt H j ∧ ∀ l H', l.length ≤ n → isT l = true → JarAt H' j → Fr j H H' → Q (.str (S l)) H'
theorem ok__law_text (Y : Fx K mg) : FnOk P w K mg base CX0 3 Y.a__law_text Y.fd__law_text ["_law_well_here", "_law_most"] (sp__law_text K) := by
  refine Y.F__law_text.ok sc__law_text (fun vs H Q E h => ?_) (fun cdv A outer st H vs Q E hr h => ?_)
  · obtain ⟨j, n, rfl, _⟩ := h
    rfl
  · obtain ⟨j, n, rfl, hn, hJ, q⟩ := h
    refine ⟨_, b__law_text Y (ok__law_draw Y) (ok__law_sign Y) hr, ?_⟩
    show t__law_text K _ _ _ [some (.ref j), some (.int n), none] H
    unfold t__law_text
    rw [show ("" : Str) = S [] from rfl]
    walk_at "rd"
    refine ⟨j, (n : Int) + 1, rfl, hJ, by omega, by omega, fun r H1 r0 r1 hJ1 hF1 => ?_⟩
    refine lcR1_mk (by omega) (by omega) (fun D i H' => JarAt H' j ∧ Fr j H H' ∧ ∃ cs : List (List Nat), H' D = some (.lst (tv cs)) ∧ cs.length = i ∧ (∀ c ∈ cs, c.length = 1) ∧ ∀ c ∈ cs, isT c = true) (fun D hD => ⟨hJ1.new hD, hF1.new hD, [], upd_same, rfl, (fun _ h => by cases h), fun _ h => by cases h⟩) (fun D i H' hD hi hp => ?_) (fun D H4 hD hp => ?_)
    · obtain ⟨hJ', hF', cs, hc, hcl, hc1, hc2⟩ := hp
      have oD := hJ1.off hD
      refine ⟨rfl, ?_⟩
      walk_at "rd"
      refine ⟨j, rfl, hJ', fun d H5 td hJ5 hF5 => ?_⟩
      refine ⟨_, hF5 D _ oD oD hc, Nat.lt_of_le_of_lt (show _ ≤ 2000 by rw [tv_len]; omega) (by decide), hJ5.keep oD, Fr.cut (hF'.trans hF5) hF1 hD, cs ++ [[d]], ?_, by rw [List.length_append, hcl]; rfl, fun e he => ?_, fun e he => ?_⟩
      · rw [upd_same, tv_app]
        rfl
      · rcases List.mem_append.mp he with h | h
        · exact hc1 e h
        · rw [List.mem_singleton.mp h]; rfl
      · rcases List.mem_append.mp he with h | h
        · exact hc2 e h
        · rw [List.mem_singleton.mp h]; exact td
    · obtain ⟨hJ', hF', cs, hc, hcl, hc1, hc2⟩ := hp
      walk_at "rd"
      have hfl := flat_len hc1
      refine jn_0 (lst_of (by rw [← tv_eq]; exact hc)) (by omega) ?_
      exact q _ H4 (by omega) (isT_flat hc2) hJ' hF'
end
end My

set_option Elab.async false
set_option linter.all false
set_option maxRecDepth 100000
set_option maxHeartbeats 1000000
namespace My
open PySem PySem.Spec PyProof.Rows L2
local macro_rules | `(tactic| walk_at "len") => `(tactic| first | assumption | omega | decide | (simp only [List.length_append, List.length_take, List.length_drop, List.length_cons, List.length_nil, List.length_replicate]; omega))
local macro_rules | `(tactic| walk_at "side") => `(tactic| first | assumption | exact Nat.zero_le _ | decide | omega)
local macro_rules | `(tactic| walk_at "rd1") => `(tactic| first
  | with_reducible refine s_seq ?_
  | with_reducible refine x_gsub ?_
  | with_reducible refine s_asg ?_
  | ((with_reducible refine s_gn ?_); dsimp only [List.set])
  | ((with_reducible refine x_var (v := ?rdv) ?rdhv ?_); (case rdhv => rfl))
  | with_reducible refine x_c ?_
  | with_reducible refine x_op ?_
  | with_reducible refine x_cons ?_
  | with_reducible refine x_nil ?_
  | with_reducible refine x_cb ?_
  | with_reducible refine x_call ?_
  | with_reducible refine x_callS ?_
  | with_reducible refine x_revT ?_
  | with_reducible refine x_dget ?_
  | with_reducible refine x_din ?_
  | with_reducible refine x_dnotin ?_
  | with_reducible refine s_dput ?_
  | with_reducible refine x_dnew ?_
  | with_reducible refine s_try ?_
  | with_reducible refine s_raise ?_
  | with_reducible refine s_if ?_
  | with_reducible refine s_ret ?_
  | with_reducible refine s_retN ?_
  | with_reducible refine s_next ?_
  | with_reducible refine s_brk ?_
  | with_reducible refine s_cont ?_
  | with_reducible refine s_drop ?_
  | with_reducible refine s_par ?_
  | with_reducible refine s_par3 ?_
  | ((with_reducible refine s_p2 ?_); dsimp only [List.set])
  | ((with_reducible refine s_p3 ?_); dsimp only [List.set])
  | with_reducible refine f_r1 ?_
  | with_reducible refine f_r2 ?_
  | with_reducible refine f_l ?_
  | with_reducible refine f_t ?_
  | with_reducible refine f_s ?_
  | with_reducible refine c_r1 ?_
  | with_reducible refine c_r2 ?_
  | with_reducible refine c_l ?_
  | with_reducible refine c_t ?_
  | with_reducible refine c_s ?_
  | with_reducible refine x_tst ?_
  | with_reducible refine x_tru ?_
  | with_reducible refine x_truB ?_
  | with_reducible refine x_bl2 ?_
  | with_reducible refine x_int ?_
  | with_reducible refine x_str ?_
  | with_reducible refine x_not ?_
  | with_reducible refine x_and ?_
  | with_reducible refine x_or ?_
  | with_reducible refine x_andV ?_
  | with_reducible refine x_orV ?_
  | with_reducible refine x_notV ?_
  | with_reducible refine x_if ?_
  | with_reducible refine x_yes ?_
  | with_reducible refine x_un ?_
  | with_reducible refine x_tup ?_
  | with_reducible refine x_lst ?_
  | with_reducible refine x_callK ?_
  | with_reducible refine x_callK0 ?_
  | with_reducible refine x_bm ?_
  | with_reducible refine x_bm0 ?_
  | with_reducible refine x_tyS ?_
  | with_reducible refine x_sl ?_
  | with_reducible refine x_nopart ?_
  | with_reducible refine x_part ?_
  | with_reducible refine x_fmt0 ?_
  | with_reducible refine x_gc ?_
  | with_reducible refine x_gz ?_
  | with_reducible refine x_ckw ?_
  | with_reducible refine x_fmt ?_
  | with_reducible refine x_chain ?_
  | with_reducible refine a_ii ?_
  | ((with_reducible refine sl_to ?rda ?rdb ?_); (case rda => walk_at "len"); (case rdb => walk_at "len"))
  | ((with_reducible refine sl_from ?rda ?rdb ?_); (case rda => walk_at "len"); (case rdb => walk_at "len"))
  | ((with_reducible refine sl_mid ?rda ?rdb ?rdc ?_); (case rda => walk_at "len"); (case rdb => walk_at "len"); (case rdc => walk_at "len"))
  | ((with_reducible refine a_SS ?rda ?_); (case rda => walk_at "len"))
  | ((with_reducible refine ln_S ?rda ?_); (case rda => walk_at "len"))
  | with_reducible refine e_SS ?_
  | with_reducible refine ne_SS ?_
  | with_reducible refine s_ii ?_
  | ((with_reducible refine md_ii ?rdc ?_); (case rdc => first | decide | assumption | omega))
  | with_reducible refine n_i ?_
  | with_reducible refine e_ii ?_
  | with_reducible refine e_bb ?_
  | with_reducible refine ne_ii ?_
  | with_reducible refine ne_bb ?_
  | with_reducible refine lt_ii ?_
  | with_reducible refine lt_ss ?_
  | with_reducible refine le_ii ?_
  | with_reducible refine le_ss ?_
  | with_reducible refine gt_ii ?_
  | with_reducible refine gt_ss ?_
  | with_reducible refine ge_ii ?_
  | with_reducible refine e_ss ?_
  | with_reducible refine ne_ss ?_
  | with_reducible refine is_N ?_
  | with_reducible refine is_T ?_
  | with_reducible refine is_B ?_
  | with_reducible refine isn_N ?_
  | with_reducible refine isn_T ?_
  | with_reducible refine isn_B ?_
  | with_reducible refine in_s ?_
  | with_reducible refine nin_s ?_
  | with_reducible refine i_i ?_
  | with_reducible refine i_b ?_
  | with_reducible refine ab_i ?_
  | with_reducible refine mx_ii ?_
  | with_reducible refine mn_ii ?_
  | with_reducible refine ty_N ?_
  | with_reducible refine ty_B ?_
  | with_reducible refine ty_I ?_
  | with_reducible refine ty_S ?_
  | with_reducible refine ma_s ?_
  | with_reducible refine mp_s ?_
  | with_reducible refine mdg_s ?_
  | with_reducible refine mf_s ?_
  | with_reducible refine iteT ?_
  | with_reducible refine iteF ?_
  | with_reducible refine iteNt ?_
  | with_reducible refine iteNf ?_
  | with_reducible refine iteTd (by decide) ?_
  | with_reducible refine iteFd (by decide) ?_
  | with_reducible refine iteNd (by decide) ?_
  | with_reducible refine iteNdF (by decide) ?_
  | ((with_reducible refine iteFd ?rdn ?_); (case rdn => (intro rdz; cases rdz; done)))
  | ((with_reducible refine iteNdF ?rdn ?_); (case rdn => (intro rdz; cases rdz; done))))
local macro_rules | `(tactic| walk_at "rd") => `(tactic| (repeat walk_at "rd1"))
section
variable {P : Program} {w : World} {K : PySem.W.Frag} {mg : Str → Option Value} {base : Heap}
def pv' : Option Nat → Int
  | some n => n
  | none => -1
def nd (c : Nat) : Bool := !(decide (48 ≤ c) && decide (c ≤ 57))
theorem nd_nil (l : List Nat) : (l.filter nd = []) = (isD l = true) := by
  apply propext
  rw [List.filter_eq_nil_iff]
  constructor
  · intro h
    refine List.all_eq_true.mpr fun c hc => ?_
    have := h c hc
    unfold nd at this
    cases hx : (decide (48 ≤ c) && decide (c ≤ 57)) with
    | true => rfl
    | false => rw [hx] at this; exact absurd rfl this
  · intro h c hc
    have := List.all_eq_true.mp h c hc
    unfold nd
    rw [this]
    decide
def figL : List Nat := [48, 49, 50, 51, 52, 53, 54, 55, 56, 57]
theorem figL_mem (c : Nat) : decide (c ∈ figL) = !nd c := by
  unfold nd
  rw [Bool.not_not]
  by_cases h : 48 ≤ c ∧ c ≤ 57
  · rw [decide_eq_true h.1, decide_eq_true h.2]
    refine decide_eq_true ?_
    have h2 : ∀ j : _root_.Fin 10, 48 + j.val ∈ figL := by decide
    have := h2 ⟨c - 48, by omega⟩
    rw [show 48 + (c - 48) = c by omega] at this
    exact this
  · rw [decide_eq_false]
    · by_cases h1 : 48 ≤ c
      · rw [decide_eq_true h1, decide_eq_false (fun z => h ⟨h1, z⟩)]; rfl
      · rw [decide_eq_false h1]; rfl
    · intro z
      have h2 : ∀ x ∈ figL, 48 ≤ x ∧ x ≤ 57 := by decide
      exact h (h2 c z)
theorem dp_tvs {K : PySem.W.Frag} (H : Hp) : ∀ ls : List (List Nat), DpAll K H (tv ls) (ls.map fun l => PyData.str (S l))
  | [] => .nil
  | l :: ls => .cons (.str _) (dp_tvs H ls)
def sp__law_number (K : PySem.W.Frag) : Sp := fun vs H Q _ => ∃ (l : List Nat) (a k : Nat), vs = [.str (S l), .int a, .int k] ∧ isT l = true ∧ l.length ≤ 300000 ∧ k ≤ 100 ∧ k ≠ 0 ∧ ∀ H', Same H H' → Q (.int (pv' (numAt l a k))) H'
theorem ok__law_number (Y : Fx K mg) : FnOk P w K mg base CX0 1 Y.a__law_number Y.fd__law_number ["_law_text_here", "_law_at", "_law_many"] (sp__law_number K) := by
  refine Y.F__law_number.ok sc__law_number (fun vs H Q E h => ?_) (fun cdv A outer s H vs Q E hr h => ?_)
  · obtain ⟨l, a, k, rfl, _⟩ := h
    rfl
  · obtain ⟨l, a, k, rfl, hT, hl, hk, hk0, q⟩ := h
    refine ⟨_, b__law_number Y hr, ?_⟩
    show t__law_number K _ [some (.str (S l)), some (.int a), some (.int k), none, none] H
    unfold t__law_number
    rw [show ("0123456789" : Str) = S figL from rfl]
    walk_at "rd"
    rw [show ((a : Int) + (k : Int)).toNat = a + k by omega, Int.toNat_natCast]
    generalize hw : (l.take (a + k)).drop a = wd
    have hwl : wd.length ≤ k := by
      rw [← hw, List.length_drop, List.length_take]
      omega
    have hwT : isT wd = true := by
      rw [← hw]
      exact isT_drop _ (isT_take _ hT)
    unfold numAt at q
    rw [hw] at q
    refine ite2' (fun e => ?_) (fun e => ?_)
    · have e1 := of_decide_eq_true e
      rw [if_neg (fun z => by omega)] at q
      walk_at "rd"
      exact q _ (Same.refl H)
    · have e1 := of_decide_eq_false e
      have e2 : wd.length = k := by omega
      walk_at "rd"
      refine lcS_mk (fun D j H2 => Same H H2 ∧ H2 D = some (.lst (tv (((wd.take j).filter nd).map fun c => [c])))) (fun D hD => ⟨same_upd hD, upd_same⟩) (fun D j c H2 hD hc hP => ?_) (fun D H2 hD hP => ?_)
      · obtain ⟨hS2, hH2⟩ := hP
        have hj := (List.getElem?_eq_some_iff.mp hc).1
        refine ⟨rfl, ?_⟩
        walk_at "rd"
        rw [S_cps, figL_mem, Bool.not_not]
        cases hnd : nd c with
        | true =>
          refine iteT ?_
          walk_at "rd"
          refine ⟨_, hH2, Nat.lt_of_le_of_lt (show _ ≤ 300000 by
            rw [tv_len, List.length_map]
            refine Nat.le_trans (List.length_filter_le _ _) ?_
            rw [List.length_take]
            omega) (by decide), same_mut hS2 hD, ?_⟩
          rw [upd_same, take_snoc hc, List.filter_append, List.map_append, tv_app, List.filter_cons_of_pos hnd]
          rfl
        | false =>
          refine iteF ?_
          refine ⟨hS2, ?_⟩
          rw [take_snoc hc, List.filter_append, List.filter_cons_of_neg (by rw [hnd]; decide), List.filter_nil, List.append_nil]
          exact hH2
      · obtain ⟨hS2, hH2⟩ := hP
        rw [List.take_of_length_le (Nat.le_refl _)] at hH2
        walk_at "rd"
        refine ⟨Nat.zero_le _, fun p2 hp2 => ?_⟩
        have hS3 := same_upd hp2 (o := .lst [])
        have hAT : AllT ((wd.filter nd).map fun c => [c]) := by
          intro x hx
          obtain ⟨c, hc, rfl⟩ := List.mem_map.mp hx
          exact isT_of fun y hy => by
            rw [List.mem_singleton.mp hy]
            exact isT_mem hwT ((List.mem_filter.mp hc).1)
        refine ne_d (.lst (lst_of (hS3 _ _ hH2)) (dp_tvs _ _)) (.lst (lst_of upd_same) .nil) (shaped_strs _ hAT) (by decide) ?_
        rw [eqv_strs]
        walk_at "rd"
        refine ite2' (fun e => ?_) (fun e => ?_)
        · rw [Bool.not_eq_true'] at e
          have e3 := of_decide_eq_false e
          have hnD : ¬ isD wd = true := by
            intro z
            rw [← nd_nil] at z
            exact e3 (by rw [z]; rfl)
          rw [if_neg (fun z => hnD z.2.2)] at q
          walk_at "rd"
          exact q _ (hS2.trans hS3)
        · rw [Bool.not_eq_false'] at e
          have e3 := of_decide_eq_true e
          have hD : isD wd = true := by
            rw [← nd_nil]
            exact List.map_eq_nil_iff.mp e3
          rw [if_pos ⟨e2, hk0, hD⟩] at q
          have hne : wd ≠ [] := by
            rintro rfl
            exact hk0 e2.symm
          walk_at "rd"
          refine i_s (SX.int_S hD hne (by omega)) (by rw [S_len]; omega) ?_
          exact q _ (hS2.trans hS3)
end
end My

set_option Elab.async false
set_option linter.all false
set_option maxRecDepth 100000
set_option maxHeartbeats 1000000
namespace My
open PySem PySem.Spec PyProof.Rows L2
local macro_rules | `(tactic| walk_at "len") => `(tactic| first | assumption | omega | decide | (simp only [List.length_append, List.length_take, List.length_drop, List.length_cons, List.length_nil, List.length_replicate]; omega))
local macro_rules | `(tactic| walk_at "side") => `(tactic| first | assumption | exact Nat.zero_le _ | decide | omega)
local macro_rules | `(tactic| walk_at "rd1") => `(tactic| first
  | with_reducible refine s_seq ?_
  | with_reducible refine x_gsub ?_
  | with_reducible refine s_asg ?_
  | ((with_reducible refine s_gn ?_); dsimp only [List.set])
  | ((with_reducible refine x_var (v := ?rdv) ?rdhv ?_); (case rdhv => rfl))
  | with_reducible refine x_c ?_
  | with_reducible refine x_op ?_
  | with_reducible refine x_cons ?_
  | with_reducible refine x_nil ?_
  | with_reducible refine x_cb ?_
  | with_reducible refine x_call ?_
  | with_reducible refine x_callS ?_
  | with_reducible refine x_revT ?_
  | with_reducible refine x_dget ?_
  | with_reducible refine x_din ?_
  | with_reducible refine x_dnotin ?_
  | with_reducible refine s_dput ?_
  | with_reducible refine x_dnew ?_
  | with_reducible refine s_try ?_
  | with_reducible refine s_raise ?_
  | with_reducible refine s_if ?_
  | with_reducible refine s_ret ?_
  | with_reducible refine s_retN ?_
  | with_reducible refine s_next ?_
  | with_reducible refine s_brk ?_
  | with_reducible refine s_cont ?_
  | with_reducible refine s_drop ?_
  | with_reducible refine s_par ?_
  | with_reducible refine s_par3 ?_
  | ((with_reducible refine s_p2 ?_); dsimp only [List.set])
  | ((with_reducible refine s_p3 ?_); dsimp only [List.set])
  | with_reducible refine f_r1 ?_
  | with_reducible refine f_r2 ?_
  | with_reducible refine f_l ?_
  | with_reducible refine f_t ?_
  | with_reducible refine f_s ?_
  | with_reducible refine c_r1 ?_
  | with_reducible refine c_r2 ?_
  | with_reducible refine c_l ?_
  | with_reducible refine c_t ?_
  | with_reducible refine c_s ?_
  | with_reducible refine x_tst ?_
  | with_reducible refine x_tru ?_
  | with_reducible refine x_truB ?_
  | with_reducible refine x_bl2 ?_
  | with_reducible refine x_int ?_
  | with_reducible refine x_str ?_
  | with_reducible refine x_not ?_
  | with_reducible refine x_and ?_
  | with_reducible refine x_or ?_
  | with_reducible refine x_andV ?_
  | with_reducible refine x_orV ?_
  | with_reducible refine x_notV ?_
  | with_reducible refine x_if ?_
  | with_reducible refine x_yes ?_
  | with_reducible refine x_un ?_
  | with_reducible refine x_tup ?_
  | with_reducible refine x_lst ?_
  | with_reducible refine x_callK ?_
  | with_reducible refine x_callK0 ?_
  | with_reducible refine x_bm ?_
  | with_reducible refine x_bm0 ?_
  | with_reducible refine x_tyS ?_
  | with_reducible refine x_sl ?_
  | with_reducible refine x_nopart ?_
  | with_reducible refine x_part ?_
  | with_reducible refine x_fmt0 ?_
  | with_reducible refine x_gc ?_
  | with_reducible refine x_gz ?_
  | with_reducible refine x_ckw ?_
  | with_reducible refine x_fmt ?_
  | with_reducible refine x_chain ?_
  | with_reducible refine a_ii ?_
  | ((with_reducible refine sl_to ?rda ?rdb ?_); (case rda => walk_at "len"); (case rdb => walk_at "len"))
  | ((with_reducible refine sl_from ?rda ?rdb ?_); (case rda => walk_at "len"); (case rdb => walk_at "len"))
  | ((with_reducible refine sl_mid ?rda ?rdb ?rdc ?_); (case rda => walk_at "len"); (case rdb => walk_at "len"); (case rdc => walk_at "len"))
  | ((with_reducible refine a_SS ?rda ?_); (case rda => walk_at "len"))
  | ((with_reducible refine ln_S ?rda ?_); (case rda => walk_at "len"))
  | with_reducible refine e_SS ?_
  | with_reducible refine ne_SS ?_
  | with_reducible refine s_ii ?_
  | ((with_reducible refine md_ii ?rdc ?_); (case rdc => first | decide | assumption | omega))
  | with_reducible refine n_i ?_
  | with_reducible refine e_ii ?_
  | with_reducible refine e_bb ?_
  | with_reducible refine ne_ii ?_
  | with_reducible refine ne_bb ?_
  | with_reducible refine lt_ii ?_
  | with_reducible refine lt_ss ?_
  | with_reducible refine le_ii ?_
  | with_reducible refine le_ss ?_
  | with_reducible refine gt_ii ?_
  | with_reducible refine gt_ss ?_
  | with_reducible refine ge_ii ?_
  | with_reducible refine e_ss ?_
  | with_reducible refine ne_ss ?_
  | with_reducible refine is_N ?_
  | with_reducible refine is_T ?_
  | with_reducible refine is_B ?_
  | with_reducible refine isn_N ?_
  | with_reducible refine isn_T ?_
  | with_reducible refine isn_B ?_
  | with_reducible refine in_s ?_
  | with_reducible refine nin_s ?_
  | with_reducible refine i_i ?_
  | with_reducible refine i_b ?_
  | with_reducible refine ab_i ?_
  | with_reducible refine mx_ii ?_
  | with_reducible refine mn_ii ?_
  | with_reducible refine ty_N ?_
  | with_reducible refine ty_B ?_
  | with_reducible refine ty_I ?_
  | with_reducible refine ty_S ?_
  | with_reducible refine ma_s ?_
  | with_reducible refine mp_s ?_
  | with_reducible refine mdg_s ?_
  | with_reducible refine mf_s ?_
  | with_reducible refine iteT ?_
  | with_reducible refine iteF ?_
  | with_reducible refine iteNt ?_
  | with_reducible refine iteNf ?_
  | with_reducible refine iteTd (by decide) ?_
  | with_reducible refine iteFd (by decide) ?_
  | with_reducible refine iteNd (by decide) ?_
  | with_reducible refine iteNdF (by decide) ?_
  | ((with_reducible refine iteFd ?rdn ?_); (case rdn => (intro rdz; cases rdz; done)))
  | ((with_reducible refine iteNdF ?rdn ?_); (case rdn => (intro rdz; cases rdz; done))))
local macro_rules | `(tactic| walk_at "rd") => `(tactic| (repeat walk_at "rd1"))
section
variable {P : Program} {w : World} {K : PySem.W.Frag} {mg : Str → Option Value} {base : Heap}
def RsV (H : Hp) (l : List Nat) (v : V) : Prop := match chsR l l.length 0 with
  | none => v = .non
  | some cs => if ascL (cs.map (·.1)) = true then ∃ p us, v = .ref p ∧ H p = some (.tup us) ∧ ChV H us cs ∧ ∀ c ∈ cs, ShT c else v = .non
def sp__law_read_rows (K : PySem.W.Frag) : Sp := fun vs H Q _ => ∃ l : List Nat, vs = [.str (S l)] ∧ isT l = true ∧ l.length ≤ 300000 ∧ ∀ v H', Same H H' → RsV H' l v → Q v H'
theorem ok__law_read_rows (Y : Fx K mg) : FnOk P w K mg base CX0 2 Y.a__law_read_rows Y.fd__law_read_rows ["_law_text_here"] (sp__law_read_rows K) := by
  refine Y.F__law_read_rows.ok sc__law_read_rows (fun vs H Q E h => ?_) (fun cdv A outer s H vs Q E hr h => ?_)
  · obtain ⟨l, rfl, _⟩ := h
    rfl
  · obtain ⟨l, rfl, hT, hl, q⟩ := h
    refine ⟨_, b__law_read_rows Y (ok__law_number Y) hr, ?_⟩
    show t__law_read_rows K _ _ [some (.str (S l)), none, none, none, none, none, none, none] H
    unfold t__law_read_rows
    rw [show ("+" : Str) = S [43] from rfl, show ("+-" : Str) = S [43, 45] from rfl]
    walk_at "rd"
    refine ⟨Nat.zero_le _, fun D hD => ?_⟩
    have S0 := same_upd hD (o := .lst [])
    have hD0 : upd H D (.lst []) D = some (.lst []) := upd_same
    generalize upd H D (.lst []) = H1 at hD0 S0 ⊢
    walk_at "rd"
    have stop : chsR l l.length 0 = none → ∀ H', Same H H' → Q .non H' := fun e H' h => q _ _ h (by unfold RsV; rw [e]; all_goals rfl)
    refine w_while (fun k σ H' => ∃ (a n : Nat) (us : List V) (cs : List Ch) (y3 y4 y5 y6 y7 : Option V), σ = [some (.str (S l)), some (.ref D), some (.int a), y3, y4, y5, y6, y7] ∧ Same H H' ∧ H' D = some (.lst us) ∧ ChV H' us cs ∧ cs.length ≤ a ∧ chsR l l.length 0 = (chsR l n a).map (cs ++ ·) ∧ l.length - a ≤ n ∧ a ≤ l.length ∧ ascL (cs.map (·.1)) = true ∧ (∀ c ∈ cs, ShT c) ∧ k = l.length - a) _
      ⟨0, l.length, [], [], _, _, _, _, _, rfl, S0, hD0, ChV.nil, Nat.zero_le _, (by cases chsR l l.length 0 <;> rfl), by omega, Nat.zero_le _, rfl, (fun _ h => by cases h), rfl⟩ (fun k σ H1 hW => ?_)
    obtain ⟨a, n, us, cs, y3, y4, y5, y6, y7, rfl, hS, hDu, hV, hcl, hR, hn, hal, hasc, hsh, rfl⟩ := hW
    walk_at "rd"
    refine ite2' (fun e => ?_) (fun e => ?_)
    · have hlt : a < l.length := by have := of_decide_eq_true e; omega
      obtain ⟨n', rfl⟩ : ∃ n', n = n' + 1 := ⟨n - 1, by omega⟩
      rw [chsR, if_pos hlt] at hR
      refine ⟨fun σ' H' => ∃ k', k' < l.length - a ∧ ∃ (a n : Nat) (us : List V) (cs : List Ch) (y3 y4 y5 y6 y7 : Option V), σ' = [some (.str (S l)), some (.ref D), some (.int a), y3, y4, y5, y6, y7] ∧ Same H H' ∧ H' D = some (.lst us) ∧ ChV H' us cs ∧ cs.length ≤ a ∧ chsR l l.length 0 = (chsR l n a).map (cs ++ ·) ∧ l.length - a ≤ n ∧ a ≤ l.length ∧ ascL (cs.map (·.1)) = true ∧ (∀ c ∈ cs, ShT c) ∧ k' = l.length - a, fun _ _ h => h, ?_⟩
      have stop' : chgR l a = none → ∀ H2, Same H H2 → Q .non H2 := fun e H2 h2 => stop (by rw [hR, e]; rfl) H2 h2
      walk_at "rd"
      rw [show (a : Int) + 1 = ((a + 1 : Nat) : Int) by omega]
      refine ⟨l, a + 1, 4, rfl, hT, hl, by decide, by decide, fun H2 hS2 => ?_⟩
      have hS02 := hS.trans hS2
      have hD2 := hS2 _ _ hDu
      have hV2 := hV.mono hS2
      walk_at "rd"
      refine ix_SS (by omega) (by omega) (by omega) fun c hc => ?_
      rw [Int.toNat_natCast] at hc
      walk_at "rd"
      rw [← S_one]
      walk_at "rd"
      rw [S_cps]
      unfold chgR at stop'
      refine ite2' (fun e => ?_) (fun e => ?_)
      · rw [Bool.not_eq_true'] at e
        have e4 := of_decide_eq_false e
        have c1 : ¬ l[a]? = some 45 := by rw [hc]; intro z; cases z; exact e4 (by simp)
        have c2 : ¬ l[a]? = some 43 := by rw [hc]; intro z; cases z; exact e4 (by simp)
        walk_at "rd"
        refine stop' ?_ _ hS02
        cases partR l (a + 1) with
        | none => rfl
        | some r1 =>
          show (if l[a]? = some 45 then _ else match partR l r1.2 with
            | none => none
            | some r2 => if l[a]? = some 43 then _ else none) = none
          rw [if_neg c1]
          cases partR l r1.2 with
          | none => rfl
          | some r2 => exact if_neg c2
      · rw [Bool.not_eq_false'] at e
        have e4 := of_decide_eq_true e
        walk_at "rd"
        cases ho : numAt l (a + 1) 4 with
        | none =>
          have hp1 : partR l (a + 1) = none := by unfold partR; rw [ho]
          refine iteTd (show pv' none < 0 by decide) ?_
          walk_at "rd"
          exact stop' (by rw [hp1]) _ hS02
        | some x =>
          refine iteFd (show ¬ (pv' (some x) < 0) from Int.not_lt.mpr (Int.natCast_nonneg x)) ?_
          rw [show pv' (some x) = (x : Int) from rfl]
          walk_at "rd"
          refine ite2' (fun e => ?_) (fun e => ?_)
          · have e5 := of_decide_eq_true e
            have hp1 : partR l (a + 1) = none := by
              unfold partR
              rw [ho]
              exact if_pos (by omega)
            walk_at "rd"
            exact stop' (by rw [hp1]) _ hS02
          · have e5 := of_decide_eq_false e
            have hp1 : partR l (a + 1) = some (cutL l (a + 5) (a + 5 + x), a + 5 + x) := by
              unfold partR
              rw [ho]
              exact if_neg (by omega)
            rw [hp1] at stop'
            have hg : chgR l a = if l[a]? = some 45 then some ((cutL l (a + 5) (a + 5 + x), none), a + 5 + x) else match partR l (a + 5 + x) with
                | none => none
                | some r2 => if l[a]? = some 43 then some ((cutL l (a + 5) (a + 5 + x), some r2.1), r2.2) else none := by
              unfold chgR
              rw [hp1]
              all_goals rfl
            have stop2 : (if l[a]? = some 45 then some ((cutL l (a + 5) (a + 5 + x), none), a + 5 + x) else match partR l (a + 5 + x) with
                | none => none
                | some r2 => if l[a]? = some 43 then some ((cutL l (a + 5) (a + 5 + x), some r2.1), r2.2) else none) = none → ∀ H2, Same H H2 → Q .non H2 := stop'
            clear stop'
            walk_at "rd"
            rw [show ((a : Int) + 5).toNat = a + 5 by omega, show ((a : Int) + 5 + x).toNat = a + 5 + x by omega, show (a : Int) + 5 + (x : Int) = ((a + 5 + x : Nat) : Int) by omega]
            refine s_cut (fun σ' H3 => ∃ (o : Option (List Nat)) (e : Nat) (y7 : Option V), σ' = [some (.str (S l)), some (.ref D), some (.int a), some (.int x), some (.str (S (cutL l (a + 5) (a + 5 + x)))), some (vlV o), some (.int e), y7] ∧ Same H2 H3 ∧ chgR l a = some ((cutL l (a + 5) (a + 5 + x), o), e) ∧ ∀ v, o = some v → isT v = true) ?_ ?_
            · walk_at "rd"
              refine ix_SS (by omega) (by omega) (by omega) fun c' hc' => ?_
              rw [Int.toNat_natCast] at hc'
              walk_at "rd"
              rw [sg_at hc']
              refine ite2' (fun e => ?_) (fun e => ?_)
              · have c2 := of_decide_eq_true e
                have c1 : ¬ l[a]? = some 45 := by rw [c2]; intro z; cases z
                rw [if_neg c1] at hg stop2
                walk_at "rd"
                refine ⟨l, a + 5 + x, 4, rfl, hT, hl, by decide, by decide, fun H3 hS3 => ?_⟩
                have hS03 := hS02.trans hS3
                walk_at "rd"
                cases ho2 : numAt l (a + 5 + x) 4 with
                | none =>
                  have hp2 : partR l (a + 5 + x) = none := by unfold partR; rw [ho2]
                  refine iteTd (show pv' none < 0 by decide) ?_
                  walk_at "rd"
                  exact stop2 (by show (match partR l (a + 5 + x) with | none => none | some r2 => _) = none; rw [hp2]) _ hS03
                | some x2 =>
                  refine iteFd (show ¬ (pv' (some x2) < 0) from Int.not_lt.mpr (Int.natCast_nonneg x2)) ?_
                  rw [show pv' (some x2) = (x2 : Int) from rfl]
                  walk_at "rd"
                  refine ite2' (fun e => ?_) (fun e => ?_)
                  · have e6 := of_decide_eq_true e
                    have hp2 : partR l (a + 5 + x) = none := by
                      unfold partR
                      rw [ho2]
                      exact if_pos (by omega)
                    walk_at "rd"
                    exact stop2 (by show (match partR l (a + 5 + x) with | none => none | some r2 => _) = none; rw [hp2]) _ hS03
                  · have e6 := of_decide_eq_false e
                    have hp2 : partR l (a + 5 + x) = some (cutL l (a + 5 + x + 4) (a + 5 + x + 4 + x2), a + 5 + x + 4 + x2) := by
                      unfold partR
                      rw [ho2]
                      exact if_neg (by omega)
                    rw [hp2] at hg
                    walk_at "rd"
                    rw [show (((a + 5 + x : Nat) : Int) + 4).toNat = a + 5 + x + 4 by omega, show (((a + 5 + x : Nat) : Int) + 4 + x2).toNat = a + 5 + x + 4 + x2 by omega, show ((a + 5 + x : Nat) : Int) + 4 + (x2 : Int) = ((a + 5 + x + 4 + x2 : Nat) : Int) by omega]
                    refine ⟨some (cutL l (a + 5 + x + 4) (a + 5 + x + 4 + x2)), a + 5 + x + 4 + x2, _, rfl, hS3, ?_, fun v e => by cases e; exact isT_drop _ (isT_take _ hT)⟩
                    rw [hg]
                    exact if_pos c2
              · have c2 := of_decide_eq_false e
                have c1 : l[a]? = some 45 := by
                  rw [hc] at c2 ⊢
                  rcases List.mem_cons.mp e4 with h | h
                  · exact absurd (by rw [h]) c2
                  · rw [List.mem_singleton.mp h]
                rw [if_pos c1] at hg
                walk_at "rd"
                exact ⟨none, a + 5 + x, _, rfl, Same.refl _, hg, fun v e => by cases e⟩
            · rintro σ' H3 ⟨o, e', y7', rfl, hS3, hg', hoT⟩
              clear stop2 hg
              have hb := chgR_lt hg'
              rw [hg'] at hR
              have hR0 : chsR l l.length 0 = ((chsR l n' e').map ((cutL l (a + 5) (a + 5 + x), o) :: ·)).map (cs ++ ·) := hR
              have hR' := hR0
              rw [map_pre] at hR'
              have hb1 : a + 5 ≤ e' := hb.1
              have hb2 : e' ≤ l.length := hb.2
              have hS03 := hS02.trans hS3
              have hD3 := hS3 _ _ hD2
              have hV3 := hV2.mono hS3
              have shN : ShT (cutL l (a + 5) (a + 5 + x), o) := ⟨isT_drop _ (isT_take _ hT), hoT⟩
              walk_at "rd"
              refine ⟨Nat.zero_le _, fun p2 hp2 => ?_⟩
              have hSp2 := same_upd hp2 (o := .lst [])
              have hSp := hS03.trans hSp2
              have hDp := hSp2 _ _ hD3
              have hVp := hV3.mono hSp2
              refine ne_d (.lst (lst_of hDp) hVp.dp) (.lst (lst_of upd_same) .nil) (shaped_chs cs hsh) (by decide) ?_
              rw [eqv_chs]
              generalize upd H3 p2 (.lst []) = H4 at hSp2 hSp hDp hVp ⊢
              walk_at "rd"
              cases hcs : cs with
              | nil =>
                refine iteF ?_
                have hasc2 : ascL (List.map (fun x => x.fst) cs ++ List.map (fun x => x.fst) [((cutL l (a + 5) (a + 5 + x), o) : Ch)]) = true := by
                  rw [hcs]
                  rfl
                walk_at "rd"
                refine x_tyL (lst_of hDp) ?_
                walk_at "rd"
                refine ⟨by show 2 ≤ sizeLine; decide, fun t ht => ?_⟩
                have hSt := same_upd ht (o := .tup [V.str (S (cutL l (a + 5) (a + 5 + x))), vlV o])
                have oDt : D ≠ t := by
                  rintro rfl
                  rw [hDp] at ht
                  cases ht
                walk_at "rd"
                refine ap_L (hSt _ _ hDp) (by rw [hV.1]; omega) ?_
                walk_at "rd"
                refine ⟨l.length - e', by omega, e', n', us ++ [.ref t], cs ++ [(cutL l (a + 5) (a + 5 + x), o)], _, _, _, _, _, rfl, same_mut (hSp.trans hSt) hD, upd_same, ((hVp.mono hSt).mut (hSt _ _ hDp)).snoc (by rw [upd_ne (Ne.symm oDt)]; exact upd_same), by rw [List.length_append]; show cs.length + 1 ≤ e'; omega, hR', by omega, by omega, ?_, ?_, rfl⟩
                · rw [List.map_append]
                  exact hasc2
                · intro d hd
                  rcases List.mem_append.mp hd with hd | hd
                  · exact hsh d hd
                  · rw [List.mem_singleton.mp hd]
                    exact shN
              | cons c0 cr =>
                rw [← hcs]
                have hln : cs.length = cr.length + 1 := by rw [hcs]; rfl
                refine iteNdF (show ¬ cs = [] from fun z => by rw [z] at hcs; cases hcs) ?_
                obtain ⟨cl, ecl⟩ : ∃ cl, cs[cr.length]? = some cl := ⟨_, List.getElem?_eq_getElem (by omega)⟩
                obtain ⟨tl, etl, htl⟩ := hVp.2 _ _ ecl
                walk_at "rd"
                refine ix_L (lst_of hDp) (at_last (by rw [hVp.1]; exact hln) etl) ?_
                walk_at "rd"
                refine ix_T (tup_of htl) (by rfl) ?_
                walk_at "rd"
                refine .inr ⟨_, _, rfl, rfl, ?_⟩
                rw [S_cps, S_cps]
                walk_at "rd"
                have hkl : (cs.map (·.1)).length = cr.length + 1 := by rw [List.length_map]; exact hln
                have hka : (cs.map (·.1))[cr.length]? = some cl.1 := by rw [List.getElem?_map, ecl]; rfl
                refine ite2' (fun e => ?_) (fun e => ?_)
                · rw [Bool.not_eq_true'] at e
                  have e7 := of_decide_eq_false e
                  walk_at "rd"
                  refine q _ _ hSp ?_
                  unfold RsV
                  rw [hR0]
                  cases chsR l n' e' with
                  | none => rfl
                  | some r =>
                    show (if ascL ((cs ++ (cutL l (a + 5) (a + 5 + x), o) :: r).map (·.1)) = true then _ else V.non = V.non)
                    rw [List.map_append, List.map_cons, asc_bad hkl hka e7]
                    rfl
                · rw [Bool.not_eq_false'] at e
                  have e7 := of_decide_eq_true e
                  have hasc2 : ascL (List.map (fun x => x.fst) cs ++ List.map (fun x => x.fst) [((cutL l (a + 5) (a + 5 + x), o) : Ch)]) = true := asc_snoc1 hasc hkl hka e7
                  walk_at "rd"
                  refine x_tyL (lst_of hDp) ?_
                  walk_at "rd"
                  refine ⟨by show 2 ≤ sizeLine; decide, fun t ht => ?_⟩
                  have hSt := same_upd ht (o := .tup [V.str (S (cutL l (a + 5) (a + 5 + x))), vlV o])
                  have oDt : D ≠ t := by
                    rintro rfl
                    rw [hDp] at ht
                    cases ht
                  walk_at "rd"
                  refine ap_L (hSt _ _ hDp) (by rw [hV.1]; omega) ?_
                  walk_at "rd"
                  refine ⟨l.length - e', by omega, e', n', us ++ [.ref t], cs ++ [(cutL l (a + 5) (a + 5 + x), o)], _, _, _, _, _, rfl, same_mut (hSp.trans hSt) hD, upd_same, ((hVp.mono hSt).mut (hSt _ _ hDp)).snoc (by rw [upd_ne (Ne.symm oDt)]; exact upd_same), by rw [List.length_append]; show cs.length + 1 ≤ e'; omega, hR', by omega, by omega, ?_, ?_, rfl⟩
                  · rw [List.map_append]
                    exact hasc2
                  · intro d hd
                    rcases List.mem_append.mp hd with hd | hd
                    · exact hsh d hd
                    · rw [List.mem_singleton.mp hd]
                      exact shN
    · have hge : ¬ a < l.length := by have := of_decide_eq_false e; omega
      rw [chsR_end hge] at hR
      have hR' : chsR l l.length 0 = some cs := by
        rw [hR]
        show some (cs ++ []) = some cs
        rw [List.append_nil]
      walk_at "rd"
      refine tu_L (lst_of hDu) fun p hp => ?_
      have hSp := same_upd hp (o := .tup us)
      refine q _ _ (hS.trans hSp) ?_
      unfold RsV
      rw [hR']
      show if ascL (cs.map (·.1)) = true then _ else _
      rw [if_pos hasc]
      exact ⟨p, us, rfl, upd_same, hV.mono hSp, hsh⟩
end
end My

set_option Elab.async false
set_option linter.all false
set_option maxRecDepth 100000
set_option maxHeartbeats 1000000
namespace My
open PySem PySem.Spec PyProof.Rows L2
local macro_rules | `(tactic| walk_at "len") => `(tactic| first | assumption | omega | decide | (simp only [List.length_append, List.length_take, List.length_drop, List.length_cons, List.length_nil, List.length_replicate]; omega))
local macro_rules | `(tactic| walk_at "side") => `(tactic| first | assumption | exact Nat.zero_le _ | decide | omega)
local macro_rules | `(tactic| walk_at "rd1") => `(tactic| first
  | with_reducible refine s_seq ?_
  | with_reducible refine x_gsub ?_
  | with_reducible refine s_asg ?_
  | ((with_reducible refine s_gn ?_); dsimp only [List.set])
  | ((with_reducible refine x_var (v := ?rdv) ?rdhv ?_); (case rdhv => rfl))
  | with_reducible refine x_c ?_
  | with_reducible refine x_op ?_
  | with_reducible refine x_cons ?_
  | with_reducible refine x_nil ?_
  | with_reducible refine x_cb ?_
  | with_reducible refine x_call ?_
  | with_reducible refine x_callS ?_
  | with_reducible refine x_revT ?_
  | with_reducible refine x_dget ?_
  | with_reducible refine x_din ?_
  | with_reducible refine x_dnotin ?_
  | with_reducible refine s_dput ?_
  | with_reducible refine x_dnew ?_
  | with_reducible refine s_try ?_
  | with_reducible refine s_raise ?_
  | with_reducible refine s_if ?_
  | with_reducible refine s_ret ?_
  | with_reducible refine s_retN ?_
  | with_reducible refine s_next ?_
  | with_reducible refine s_brk ?_
  | with_reducible refine s_cont ?_
  | with_reducible refine s_drop ?_
  | with_reducible refine s_par ?_
  | with_reducible refine s_par3 ?_
  | ((with_reducible refine s_p2 ?_); dsimp only [List.set])
  | ((with_reducible refine s_p3 ?_); dsimp only [List.set])
  | with_reducible refine f_r1 ?_
  | with_reducible refine f_r2 ?_
  | with_reducible refine f_l ?_
  | with_reducible refine f_t ?_
  | with_reducible refine f_s ?_
  | with_reducible refine c_r1 ?_
  | with_reducible refine c_r2 ?_
  | with_reducible refine c_l ?_
  | with_reducible refine c_t ?_
  | with_reducible refine c_s ?_
  | with_reducible refine x_tst ?_
  | with_reducible refine x_tru ?_
  | with_reducible refine x_truB ?_
  | with_reducible refine x_bl2 ?_
  | with_reducible refine x_int ?_
  | with_reducible refine x_str ?_
  | with_reducible refine x_not ?_
  | with_reducible refine x_and ?_
  | with_reducible refine x_or ?_
  | with_reducible refine x_andV ?_
  | with_reducible refine x_orV ?_
  | with_reducible refine x_notV ?_
  | with_reducible refine x_if ?_
  | with_reducible refine x_yes ?_
  | with_reducible refine x_un ?_
  | with_reducible refine x_tup ?_
  | with_reducible refine x_lst ?_
  | with_reducible refine x_callK ?_
  | with_reducible refine x_callK0 ?_
  | with_reducible refine x_bm ?_
  | with_reducible refine x_bm0 ?_
  | with_reducible refine x_tyS ?_
  | with_reducible refine x_sl ?_
  | with_reducible refine x_nopart ?_
  | with_reducible refine x_part ?_
  | with_reducible refine x_fmt0 ?_
  | with_reducible refine x_gc ?_
  | with_reducible refine x_gz ?_
  | with_reducible refine x_ckw ?_
  | with_reducible refine x_fmt ?_
  | with_reducible refine x_chain ?_
  | with_reducible refine a_ii ?_
  | ((with_reducible refine sl_to ?rda ?rdb ?_); (case rda => walk_at "len"); (case rdb => walk_at "len"))
  | ((with_reducible refine sl_from ?rda ?rdb ?_); (case rda => walk_at "len"); (case rdb => walk_at "len"))
  | ((with_reducible refine sl_mid ?rda ?rdb ?rdc ?_); (case rda => walk_at "len"); (case rdb => walk_at "len"); (case rdc => walk_at "len"))
  | ((with_reducible refine a_SS ?rda ?_); (case rda => walk_at "len"))
  | ((with_reducible refine ln_S ?rda ?_); (case rda => walk_at "len"))
  | with_reducible refine e_SS ?_
  | with_reducible refine ne_SS ?_
  | with_reducible refine s_ii ?_
  | ((with_reducible refine md_ii ?rdc ?_); (case rdc => first | decide | assumption | omega))
  | with_reducible refine n_i ?_
  | with_reducible refine e_ii ?_
  | with_reducible refine e_bb ?_
  | with_reducible refine ne_ii ?_
  | with_reducible refine ne_bb ?_
  | with_reducible refine lt_ii ?_
  | with_reducible refine lt_ss ?_
  | with_reducible refine le_ii ?_
  | with_reducible refine le_ss ?_
  | with_reducible refine gt_ii ?_
  | with_reducible refine gt_ss ?_
  | with_reducible refine ge_ii ?_
  | with_reducible refine e_ss ?_
  | with_reducible refine ne_ss ?_
  | with_reducible refine is_N ?_
  | with_reducible refine is_T ?_
  | with_reducible refine is_B ?_
  | with_reducible refine isn_N ?_
  | with_reducible refine isn_T ?_
  | with_reducible refine isn_B ?_
  | with_reducible refine in_s ?_
  | with_reducible refine nin_s ?_
  | with_reducible refine i_i ?_
  | with_reducible refine i_b ?_
  | with_reducible refine ab_i ?_
  | with_reducible refine mx_ii ?_
  | with_reducible refine mn_ii ?_
  | with_reducible refine ty_N ?_
  | with_reducible refine ty_B ?_
  | with_reducible refine ty_I ?_
  | with_reducible refine ty_S ?_
  | with_reducible refine ma_s ?_
  | with_reducible refine mp_s ?_
  | with_reducible refine mdg_s ?_
  | with_reducible refine mf_s ?_
  | with_reducible refine iteT ?_
  | with_reducible refine iteF ?_
  | with_reducible refine iteNt ?_
  | with_reducible refine iteNf ?_
  | with_reducible refine iteTd (by decide) ?_
  | with_reducible refine iteFd (by decide) ?_
  | with_reducible refine iteNd (by decide) ?_
  | with_reducible refine iteNdF (by decide) ?_
  | ((with_reducible refine iteFd ?rdn ?_); (case rdn => (intro rdz; cases rdz; done)))
  | ((with_reducible refine iteNdF ?rdn ?_); (case rdn => (intro rdz; cases rdz; done))))
local macro_rules | `(tactic| walk_at "rd") => `(tactic| (repeat walk_at "rd1"))
section
variable {K : PySem.W.Frag}
theorem filt_snoc {α : Type} {p : α → Bool} {l : List α} {i : Nat} {a : α} (h : l[i]? = some a) : (l.take (i + 1)).filter p = if p a = true then (l.take i).filter p ++ [a] else (l.take i).filter p := by
  rw [take_snoc h, List.filter_append]
  by_cases hf : p a = true
  · rw [if_pos hf, List.filter_cons, if_pos hf]
    rfl
  · rw [if_neg hf, List.filter_cons, if_neg hf]
    simp
theorem ne_nil_list {H : Hp} {Q : VK} {p q : Addr} {ls : List (List Nat)} (hT : AllT ls) (hp : H p = some (.lst (tv ls))) (hq : H q = some (.lst [])) (h : Q (.bl (!decide (ls = []))) H) : rNE K (.ref p) (.ref q) H Q := by
  refine ne_d (d := .list (ls.map fun l => PyData.str (S l))) (e := .list []) (.lst (lst_of hp) (dp_strs H ls)) (.lst (lst_of hq) .nil) (shaped_strs ls hT) (shaped_strs [] fun _ h => by cases h) ?_
  rw [eqv_strs]
  exact h
theorem ms1_nt {j : Addr} {H : Hp} (hJ : JarAt H j) : ∀ x ∈ [j], ∀ o, H x = some o → NoT o := by
  intro x hx o ho
  obtain ⟨a, b, t, e, _⟩ := hJ
  rw [List.mem_singleton.mp hx, e] at ho
  cases ho
  exact True.intro
theorem ms1_fr {j : Addr} {H H' : Hp} (hF : Fr j H H') : Same (ms [j] H) (ms [j] H') := ms_frm (List.mem_singleton.mpr rfl) (List.mem_singleton.mpr rfl) hF
theorem mkM_T {j p : Addr} {G : Hp} {us : List V} {ds : List PyData} (hJ : JarAt G j) (hp : G p = none) (hd : DpAll K (ms [j] G) us ds) : JarAt (upd G p (.tup us)) j ∧ Same G (upd G p (.tup us)) ∧ Same (ms [j] G) (ms [j] (upd G p (.tup us))) ∧ Dp K (ms [j] (upd G p (.tup us))) (.ref p) (.tuple ds) := by
  have h1 := ms_new (L := [j]) hp (o := .tup us)
  exact ⟨hJ.new hp, same_upd hp, h1, .tup (tup_of (ms_at (fun z => hJ.off hp (List.mem_singleton.mp z)) upd_same)) (dpAll_mono h1 _ _ hd)⟩
theorem mkM_L {j p : Addr} {G : Hp} {us : List V} {ds : List PyData} (hJ : JarAt G j) (hp : G p = none) (hd : DpAll K (ms [j] G) us ds) : JarAt (upd G p (.lst us)) j ∧ Same G (upd G p (.lst us)) ∧ Same (ms [j] G) (ms [j] (upd G p (.lst us))) ∧ Dp K (ms [j] (upd G p (.lst us))) (.ref p) (.list ds) ∧ SqL K (ms [j] (upd G p (.lst us))) p us := by
  have h1 := ms_new (L := [j]) hp (o := .lst us)
  have h2 : SqL K (ms [j] (upd G p (.lst us))) p us := lst_of (ms_at (fun z => hJ.off hp (List.mem_singleton.mp z)) upd_same)
  exact ⟨hJ.new hp, same_upd hp, h1, .lst h2 (dpAll_mono h1 _ _ hd), h2⟩
theorem tv_at {ls : List (List Nat)} {n : Nat} (h : n < ls.length) : ∃ l, ls[n]? = some l ∧ l ∈ ls ∧ (tv ls)[n]? = some (.str (S l)) := by
  refine ⟨ls[n], List.getElem?_eq_getElem h, List.getElem_mem h, ?_⟩
  unfold tv
  rw [List.getElem?_map, List.getElem?_eq_getElem h]
  rfl
/-- a drawn one of some texts -/
theorem ix_tv {H : Hp} {Q : VK} {p : Addr} {ls : List (List Nat)} {i : Int} (hp : SqL K H p (tv ls)) (h0 : 0 ≤ i) (h1 : i < (ls.length : Int)) (q : ∀ l, l ∈ ls → Q (.str (S l)) H) : rIX K (.ref p) (.int i) H Q := by
  obtain ⟨l, _, hl, e⟩ := tv_at (ls := ls) (n := i.toNat) (by omega)
  obtain ⟨n, rfl⟩ : ∃ n : Nat, i = n := ⟨i.toNat, by omega⟩
  exact ix_L hp (atI_nat e) (q l hl)
theorem dp_tvl {H : Hp} {p : Addr} {ls : List (List Nat)} (h : H p = some (.lst (tv ls))) : Dp K H (.ref p) (.list (ls.map fun l => PyData.str (S l))) := .lst (lst_of h) (dp_strs H ls)
theorem dp_tvt {H : Hp} {p : Addr} {ls : List (List Nat)} (h : H p = some (.tup (tv ls))) : Dp K H (.ref p) (.tuple (ls.map fun l => PyData.str (S l))) := .tup (tup_of h) (dp_strs H ls)
end
end My

set_option Elab.async false
set_option linter.all false
set_option maxRecDepth 100000
set_option maxHeartbeats 1000000
namespace My
open PySem PySem.Spec PyProof.Rows L2
local macro_rules | `(tactic| walk_at "len") => `(tactic| first | assumption | omega | decide | (simp only [List.length_append, List.length_take, List.length_drop, List.length_cons, List.length_nil, List.length_replicate]; omega))
local macro_rules | `(tactic| walk_at "side") => `(tactic| first | assumption | exact Nat.zero_le _ | decide | omega)
local macro_rules | `(tactic| walk_at "rd1") => `(tactic| first
  | with_reducible refine s_seq ?_
  | with_reducible refine x_gsub ?_
  | with_reducible refine s_asg ?_
  | ((with_reducible refine s_gn ?_); dsimp only [List.set])
  | ((with_reducible refine x_var (v := ?rdv) ?rdhv ?_); (case rdhv => rfl))
  | with_reducible refine x_c ?_
  | with_reducible refine x_op ?_
  | with_reducible refine x_cons ?_
  | with_reducible refine x_nil ?_
  | with_reducible refine x_cb ?_
  | with_reducible refine x_call ?_
  | with_reducible refine x_callS ?_
  | with_reducible refine x_revT ?_
  | with_reducible refine x_dget ?_
  | with_reducible refine x_din ?_
  | with_reducible refine x_dnotin ?_
  | with_reducible refine s_dput ?_
  | with_reducible refine x_dnew ?_
  | with_reducible refine s_try ?_
  | with_reducible refine s_raise ?_
  | with_reducible refine s_if ?_
  | with_reducible refine s_ret ?_
  | with_reducible refine s_retN ?_
  | with_reducible refine s_next ?_
  | with_reducible refine s_brk ?_
  | with_reducible refine s_cont ?_
  | with_reducible refine s_drop ?_
  | with_reducible refine s_par ?_
  | with_reducible refine s_par3 ?_
  | ((with_reducible refine s_p2 ?_); dsimp only [List.set])
  | ((with_reducible refine s_p3 ?_); dsimp only [List.set])
  | with_reducible refine f_r1 ?_
  | with_reducible refine f_r2 ?_
  | with_reducible refine f_l ?_
  | with_reducible refine f_t ?_
  | with_reducible refine f_s ?_
  | with_reducible refine c_r1 ?_
  | with_reducible refine c_r2 ?_
  | with_reducible refine c_l ?_
  | with_reducible refine c_t ?_
  | with_reducible refine c_s ?_
  | with_reducible refine x_tst ?_
  | with_reducible refine x_tru ?_
  | with_reducible refine x_truB ?_
  | with_reducible refine x_bl2 ?_
  | with_reducible refine x_int ?_
  | with_reducible refine x_str ?_
  | with_reducible refine x_not ?_
  | with_reducible refine x_and ?_
  | with_reducible refine x_or ?_
  | with_reducible refine x_andV ?_
  | with_reducible refine x_orV ?_
  | with_reducible refine x_notV ?_
  | with_reducible refine x_if ?_
  | with_reducible refine x_yes ?_
  | with_reducible refine x_un ?_
  | with_reducible refine x_tup ?_
  | with_reducible refine x_lst ?_
  | with_reducible refine x_callK ?_
  | with_reducible refine x_callK0 ?_
  | with_reducible refine x_bm ?_
  | with_reducible refine x_bm0 ?_
  | with_reducible refine x_tyS ?_
  | with_reducible refine x_sl ?_
  | with_reducible refine x_nopart ?_
  | with_reducible refine x_part ?_
  | with_reducible refine x_fmt0 ?_
  | with_reducible refine x_gc ?_
  | with_reducible refine x_gz ?_
  | with_reducible refine x_ckw ?_
  | with_reducible refine x_fmt ?_
  | with_reducible refine x_chain ?_
  | with_reducible refine a_ii ?_
  | ((with_reducible refine sl_to ?rda ?rdb ?_); (case rda => walk_at "len"); (case rdb => walk_at "len"))
  | ((with_reducible refine sl_from ?rda ?rdb ?_); (case rda => walk_at "len"); (case rdb => walk_at "len"))
  | ((with_reducible refine sl_mid ?rda ?rdb ?rdc ?_); (case rda => walk_at "len"); (case rdb => walk_at "len"); (case rdc => walk_at "len"))
  | ((with_reducible refine a_SS ?rda ?_); (case rda => walk_at "len"))
  | ((with_reducible refine ln_S ?rda ?_); (case rda => walk_at "len"))
  | with_reducible refine e_SS ?_
  | with_reducible refine ne_SS ?_
  | with_reducible refine s_ii ?_
  | ((with_reducible refine md_ii ?rdc ?_); (case rdc => first | decide | assumption | omega))
  | with_reducible refine n_i ?_
  | with_reducible refine e_ii ?_
  | with_reducible refine e_bb ?_
  | with_reducible refine ne_ii ?_
  | with_reducible refine ne_bb ?_
  | with_reducible refine lt_ii ?_
  | with_reducible refine lt_ss ?_
  | with_reducible refine le_ii ?_
  | with_reducible refine le_ss ?_
  | with_reducible refine gt_ii ?_
  | with_reducible refine gt_ss ?_
  | with_reducible refine ge_ii ?_
  | with_reducible refine e_ss ?_
  | with_reducible refine ne_ss ?_
  | with_reducible refine is_N ?_
  | with_reducible refine is_T ?_
  | with_reducible refine is_B ?_
  | with_reducible refine isn_N ?_
  | with_reducible refine isn_T ?_
  | with_reducible refine isn_B ?_
  | with_reducible refine in_s ?_
  | with_reducible refine nin_s ?_
  | with_reducible refine i_i ?_
  | with_reducible refine i_b ?_
  | with_reducible refine ab_i ?_
  | with_reducible refine mx_ii ?_
  | with_reducible refine mn_ii ?_
  | with_reducible refine ty_N ?_
  | with_reducible refine ty_B ?_
  | with_reducible refine ty_I ?_
  | with_reducible refine ty_S ?_
  | with_reducible refine ma_s ?_
  | with_reducible refine mp_s ?_
  | with_reducible refine mdg_s ?_
  | with_reducible refine mf_s ?_
  | with_reducible refine iteT ?_
  | with_reducible refine iteF ?_
  | with_reducible refine iteNt ?_
  | with_reducible refine iteNf ?_
  | with_reducible refine iteTd (by decide) ?_
  | with_reducible refine iteFd (by decide) ?_
  | with_reducible refine iteNd (by decide) ?_
  | with_reducible refine iteNdF (by decide) ?_
  | ((with_reducible refine iteFd ?rdn ?_); (case rdn => (intro rdz; cases rdz; done)))
  | ((with_reducible refine iteNdF ?rdn ?_); (case rdn => (intro rdz; cases rdz; done))))
local macro_rules | `(tactic| walk_at "rd") => `(tactic| (repeat walk_at "rd1"))
section
theorem figs_drop : ∀ (w n k : Nat), (figs (k + w) n).drop k = figs w n
  | 0, n, k => List.eq_nil_of_length_eq_zero (by rw [List.length_drop, figs_len]; show k + 0 - k = 0; omega)
  | w + 1, n, k => by
    show (figs (k + w) (n / 10) ++ [48 + n % 10]).drop k = figs w (n / 10) ++ [48 + n % 10]
    rw [List.drop_append_of_le_length (by rw [figs_len]; omega), figs_drop w (n / 10) k]
theorem digits_of {n m : Nat} (hn : n < 10 ^ m) (hm : m ≠ 0) (h9 : m ≤ 9) : (TL.numL (1000000000 + n)).drop (10 - m) = pad m n := by
  have hn9 : n < 10 ^ 9 := Nat.lt_of_lt_of_le hn (Nat.pow_le_pow_right (by decide) h9)
  rw [show 1000000000 + n = 10 ^ 9 + n from rfl, numL_pow 9 n hn9, show 10 - m = (9 - m) + 1 by omega, List.drop_succ_cons]
  have e := figs_drop m n (9 - m)
  rw [show 9 - m + m = 9 by omega] at e
  rw [e, pad_figs m n hn (Nat.pos_of_ne_zero hm)]
theorem dv_lt : ∀ (k : Nat) (l : List Nat), l.length = k → isD l = true → NumText.digitsVal l < 10 ^ k
  | 0, l, hl, _ => by
    rw [List.eq_nil_of_length_eq_zero hl]
    decide
  | k + 1, l, hl, h => by
    rcases List.eq_nil_or_concat l with rfl | ⟨m, c, rfl⟩
    · cases hl
    · rw [List.concat_eq_append] at hl h ⊢
      rw [List.length_append, List.length_singleton] at hl
      have h' : (m ++ [c]).all (fun c => decide (48 ≤ c) && decide (c ≤ 57)) = true := h
      rw [List.all_append, Bool.and_eq_true] at h'
      have h1 := dv_lt k m (by omega) h'.1
      have h2 : (decide (48 ≤ c) && decide (c ≤ 57)) = true := by
        have := h'.2
        rw [List.all_cons, Bool.and_eq_true] at this
        exact this.1
      rw [Bool.and_eq_true, decide_eq_true_eq, decide_eq_true_eq] at h2
      rw [digitsVal_snoc, Nat.pow_succ]
      omega
theorem numAt_lt {l : List Nat} {a k n : Nat} (h : numAt l a k = some n) : n < 10 ^ k ∧ a + k ≤ l.length := by
  unfold numAt at h
  by_cases hc : ((l.take (a + k)).drop a).length = k ∧ k ≠ 0 ∧ isD ((l.take (a + k)).drop a) = true
  · rw [if_pos hc] at h
    obtain ⟨h1, h2, h3⟩ := hc
    have e : NumText.digitsVal ((l.take (a + k)).drop a) = n := Option.some.inj h
    rw [← e]
    refine ⟨dv_lt k _ h1 h3, ?_⟩
    rw [List.length_drop, List.length_take] at h1
    omega
  · rw [if_neg hc] at h
    cases h
def LnC (c : Ch) : Prop := c.1.length ≤ 9999 ∧ ∀ v, c.2 = some v → v.length ≤ 9999
theorem partR_ln {l : List Nat} {a : Nat} {r : List Nat × Nat} (h : partR l a = some r) : r.1.length ≤ 9999 := by
  unfold partR at h
  cases hn : numAt l a 4 with
  | none => rw [hn] at h; cases h
  | some n =>
    have hlt := (numAt_lt hn).1
    rw [hn] at h
    have h' : (if l.length < a + 4 + n then none else some (cutL l (a + 4) (a + 4 + n), a + 4 + n)) = some r := h
    by_cases hl : l.length < a + 4 + n
    · rw [if_pos hl] at h'; cases h'
    · rw [if_neg hl] at h'
      cases h'
      show ((l.take _).drop _).length ≤ _
      rw [List.length_drop, List.length_take]
      omega
theorem chgR_ln {l : List Nat} {a : Nat} {r : Ch × Nat} (h : chgR l a = some r) : LnC r.1 := by
  unfold chgR at h
  cases h1 : partR l (a + 1) with
  | none => rw [h1] at h; cases h
  | some r1 =>
    have b1 := partR_ln h1
    rw [h1] at h
    have h' : (if l[a]? = some 45 then some ((r1.1, none), r1.2) else match partR l r1.2 with
      | none => none
      | some r2 => if l[a]? = some 43 then some ((r1.1, some r2.1), r2.2) else none) = some r := h
    by_cases h2 : l[a]? = some 45
    · rw [if_pos h2] at h'
      cases h'
      exact ⟨b1, fun v e => by cases e⟩
    · rw [if_neg h2] at h'
      cases h3 : partR l r1.2 with
      | none => rw [h3] at h'; cases h'
      | some r2 =>
        have b2 := partR_ln h3
        rw [h3] at h'
        have h4 : (if l[a]? = some 43 then some ((r1.1, some r2.1), r2.2) else none) = some r := h'
        by_cases h5 : l[a]? = some 43
        · rw [if_pos h5] at h4
          cases h4
          exact ⟨b1, fun v e => by cases e; exact b2⟩
        · rw [if_neg h5] at h4; cases h4
theorem chsR_ln {l : List Nat} : ∀ (n a : Nat) (cs : List Ch), chsR l n a = some cs → ∀ c ∈ cs, LnC c
  | 0, a, cs, h => by cases h; exact fun _ h => by cases h
  | n + 1, a, cs, h => by
    rw [chsR] at h
    by_cases ha : a < l.length
    · rw [if_pos ha] at h
      cases hc : chgR l a with
      | none => rw [hc] at h; cases h
      | some r =>
        rw [hc] at h
        have h' : (chsR l n r.2).map (r.1 :: ·) = some cs := h
        cases hr : chsR l n r.2 with
        | none => rw [hr] at h'; cases h'
        | some rs =>
          rw [hr] at h'
          have e : r.1 :: rs = cs := Option.some.inj h'
          subst e
          intro c hcm
          rcases List.mem_cons.mp hcm with rfl | hcm
          · exact chgR_ln hc
          · exact chsR_ln n r.2 rs hr c hcm
    · rw [if_neg ha] at h; cases h; exact fun _ h => by cases h
theorem lines_ln {cs : List Ch} (h : ∀ c ∈ cs, LnC c) : linesB cs = true := List.all_eq_true.mpr fun c hc => by
  obtain ⟨h1, h2⟩ := h c hc
  obtain ⟨k, o⟩ := c
  cases o with
  | none =>
    show (decide (k.length ≤ 9999) && true) = true
    rw [decide_eq_true h1]
    rfl
  | some v =>
    show (decide (k.length ≤ 9999) && (decide (v.length ≤ 9999) && true)) = true
    rw [decide_eq_true h1, decide_eq_true (h2 v rfl)]
    rfl
theorem rows_drop {l : List Nat} {a : Nat} (h : a ≤ l.length) : chsR l l.length a = chsR (l.drop a) (l.drop a).length 0 := by
  have e : l = l.take a ++ l.drop a := (List.take_append_drop a l).symm
  have hl : (l.take a).length = a := by rw [List.length_take]; omega
  have h1 := chsR_sh (l.take a) (l.drop a) l.length 0
  rw [← e, Nat.add_zero, hl] at h1
  rw [h1]
  exact chsR_fu _ _ _ (by rw [List.length_drop]; omega) (by rw [Nat.sub_zero]; exact Nat.le_refl _)
theorem let_part (x y : PyData) : isLetD (.tuple [.str (S partL), x, y]) = (isNumD 1 99999999 x && (isChsD y && lineB y)) := by
  show (if strIs noneL (.str (S partL)) = true then decide ([x, y].length = 0) else if strIs partL (.str (S partL)) = true then lpart [x, y] else if strIs pieceL (.str (S partL)) = true then lpiece [x, y] else false) = _
  rw [strIs_ne (by decide), if_neg (by decide), strIs_self, if_pos rfl]
  rfl
theorem let_piece (n i p e : PyData) : isLetD (.tuple [.str (S pieceL), n, i, p, e]) = (isNumD 0 99999999 n && (isNumD 1 9999 p && (isIdxD p i && (isEntD e && lineB e)))) := by
  show (if strIs noneL (.str (S pieceL)) = true then decide ([n, i, p, e].length = 0) else if strIs partL (.str (S pieceL)) = true then lpart [n, i, p, e] else if strIs pieceL (.str (S pieceL)) = true then lpiece [n, i, p, e] else false) = _
  rw [strIs_ne (by decide), if_neg (by decide), strIs_ne (by decide), if_neg (by decide), strIs_self, if_pos rfl]
  rfl
/-! a letter's text told back -/
theorem rows_back {A : List Nat} {cs : List Ch} (h : ∀ c ∈ cs, LgC c) : chsR (A ++ rowsT cs) (A ++ rowsT cs).length A.length = some cs := chsR_mid cs A _ h (by
  show (rowsT cs).length ≤ (A ++ rowsT cs).length
  rw [List.length_append]
  omega)
theorem let_back (L : Lt) (h : LtOk L) : letF (letT L) = letD L := by
  cases L with
  | non => rfl
  | part n cs =>
    obtain ⟨h1, h2, h3, h4⟩ := h
    have hg := lg_of h3 h4
    have p8 : (pad 8 n).length = 8 := pad8_le h2
    have hA : ([80] ++ pad 8 n).length = 9 := by rw [List.length_append, p8]; rfl
    unfold letF
    have e1 : (letT (.part n cs)).take 1 = [80] := rfl
    rw [if_pos e1]
    have e2 : numAt (letT (.part n cs)) 1 8 = some n := by
      show numAt (([80] ++ pad 8 n) ++ rowsT cs) 1 8 = some n
      rw [List.append_assoc]
      exact numAt_pad rfl (by decide) (by omega)
    have e3 : chsR (letT (.part n cs)) (letT (.part n cs)).length 9 = some cs := by
      have := rows_back (A := [80] ++ pad 8 n) hg
      rw [hA] at this
      exact this
    rw [e2, e3]
    rfl
  | piece n i p cs =>
    obtain ⟨h1, h2, h3, h4, h5, h6, h7⟩ := h
    have hg := lg_of h5 h7
    have p8 : (pad 8 n).length = 8 := pad8_le h1
    have q4 : (pad 4 i).length = 4 := pad_lenW (by decide) (by omega)
    have r4 : (pad 4 p).length = 4 := pad_lenW (by decide) (by omega)
    have hA : ([83] ++ pad 8 n ++ pad 4 i ++ pad 4 p).length = 17 := by simp only [List.length_append, List.length_cons, List.length_nil]; omega
    unfold letF
    have e1 : (letT (.piece n i p cs)).take 1 = [83] := rfl
    rw [if_neg (by rw [e1]; decide), if_pos e1]
    have eT : letT (.piece n i p cs) = [83] ++ (pad 8 n ++ (pad 4 i ++ (pad 4 p ++ rowsT cs))) := by
      show [83] ++ pad 8 n ++ pad 4 i ++ pad 4 p ++ rowsT cs = _
      simp only [List.append_assoc]
    have e2 : numAt (letT (.piece n i p cs)) 1 8 = some n := by
      rw [eT]
      exact numAt_pad rfl (by decide) (by omega)
    have e3 : numAt (letT (.piece n i p cs)) 9 4 = some i := by
      have : letT (.piece n i p cs) = ([83] ++ pad 8 n) ++ (pad 4 i ++ (pad 4 p ++ rowsT cs)) := by rw [eT]; simp only [List.append_assoc]
      rw [this]
      exact numAt_pad (by rw [List.length_append, p8]; rfl) (by decide) (by omega)
    have e4 : numAt (letT (.piece n i p cs)) 13 4 = some p := by
      have : letT (.piece n i p cs) = ([83] ++ pad 8 n ++ pad 4 i) ++ (pad 4 p ++ rowsT cs) := by rw [eT]; simp only [List.append_assoc]
      rw [this]
      exact numAt_pad (by simp only [List.length_append, List.length_cons, List.length_nil]; omega) (by decide) (by omega)
    have e5 : chsR (letT (.piece n i p cs)) (letT (.piece n i p cs)).length 17 = some cs := by
      have := rows_back (A := [83] ++ pad 8 n ++ pad 4 i ++ pad 4 p) hg
      rw [hA] at this
      exact this
    rw [e2, e3, e4, e5]
    rfl
theorem letT_T {L : Lt} (h : LtOk L) : isT (letT L) = true := by
  have rT : ∀ {cs : List Ch}, (∀ c ∈ cs, LgC c) → isT (rowsT cs) = true := fun {cs} hg => isT_flat fun t ht => by
    obtain ⟨c, hc, rfl⟩ := List.mem_map.mp ht
    obtain ⟨k, o⟩ := c
    obtain ⟨⟨h1, h1'⟩, h2⟩ := hg _ hc
    have h1'' : k.length ≤ 9999 := h1'
    have p1 : isT (pad 4 k.length) = true := pad_T (by decide) (by omega)
    cases o with
    | none =>
      show isT ([45] ++ pad 4 k.length ++ k) = true
      rw [isT_app, isT_app, p1, show isT k = true from h1]
      rfl
    | some v =>
      have h3 := h2 v rfl
      have p2 : isT (pad 4 v.length) = true := pad_T (by decide) (by have := h3.2; omega)
      show isT ([43] ++ pad 4 k.length ++ k ++ pad 4 v.length ++ v) = true
      rw [isT_app, isT_app, isT_app, isT_app, p1, p2, show isT k = true from h1, h3.1]
      rfl
  cases L with
  | non => decide
  | part n cs =>
    obtain ⟨h1, h2, h3, h4⟩ := h
    show isT ([80] ++ pad 8 n ++ rowsT cs) = true
    rw [isT_app, isT_app, pad_T (by decide) (by omega), rT (lg_of h3 h4)]
    rfl
  | piece n i p cs =>
    obtain ⟨h1, h2, h3, h4, h5, h6, h7⟩ := h
    show isT ([83] ++ pad 8 n ++ pad 4 i ++ pad 4 p ++ rowsT cs) = true
    rw [isT_app, isT_app, isT_app, isT_app, pad_T (by decide) (by omega), pad_T (by decide) (by omega), pad_T (by decide) (by omega), rT (lg_of h5 h7)]
    rfl
end
end My

set_option Elab.async false
set_option linter.all false
set_option maxRecDepth 100000
set_option maxHeartbeats 1000000
namespace My
open PySem PySem.Spec PyProof.Rows L2
local macro_rules | `(tactic| walk_at "len") => `(tactic| first | assumption | omega | decide | (simp only [List.length_append, List.length_take, List.length_drop, List.length_cons, List.length_nil, List.length_replicate]; omega))
local macro_rules | `(tactic| walk_at "side") => `(tactic| first | assumption | exact Nat.zero_le _ | decide | omega)
local macro_rules | `(tactic| walk_at "rd1") => `(tactic| first
  | with_reducible refine s_seq ?_
  | with_reducible refine x_gsub ?_
  | with_reducible refine s_asg ?_
  | ((with_reducible refine s_gn ?_); dsimp only [List.set])
  | ((with_reducible refine x_var (v := ?rdv) ?rdhv ?_); (case rdhv => rfl))
  | with_reducible refine x_c ?_
  | with_reducible refine x_op ?_
  | with_reducible refine x_cons ?_
  | with_reducible refine x_nil ?_
  | with_reducible refine x_cb ?_
  | with_reducible refine x_call ?_
  | with_reducible refine x_callS ?_
  | with_reducible refine x_revT ?_
  | with_reducible refine x_dget ?_
  | with_reducible refine x_din ?_
  | with_reducible refine x_dnotin ?_
  | with_reducible refine s_dput ?_
  | with_reducible refine x_dnew ?_
  | with_reducible refine s_try ?_
  | with_reducible refine s_raise ?_
  | with_reducible refine s_if ?_
  | with_reducible refine s_ret ?_
  | with_reducible refine s_retN ?_
  | with_reducible refine s_next ?_
  | with_reducible refine s_brk ?_
  | with_reducible refine s_cont ?_
  | with_reducible refine s_drop ?_
  | with_reducible refine s_par ?_
  | with_reducible refine s_par3 ?_
  | ((with_reducible refine s_p2 ?_); dsimp only [List.set])
  | ((with_reducible refine s_p3 ?_); dsimp only [List.set])
  | with_reducible refine f_r1 ?_
  | with_reducible refine f_r2 ?_
  | with_reducible refine f_l ?_
  | with_reducible refine f_t ?_
  | with_reducible refine f_s ?_
  | with_reducible refine c_r1 ?_
  | with_reducible refine c_r2 ?_
  | with_reducible refine c_l ?_
  | with_reducible refine c_t ?_
  | with_reducible refine c_s ?_
  | with_reducible refine x_tst ?_
  | with_reducible refine x_tru ?_
  | with_reducible refine x_truB ?_
  | with_reducible refine x_bl2 ?_
  | with_reducible refine x_int ?_
  | with_reducible refine x_str ?_
  | with_reducible refine x_not ?_
  | with_reducible refine x_and ?_
  | with_reducible refine x_or ?_
  | with_reducible refine x_andV ?_
  | with_reducible refine x_orV ?_
  | with_reducible refine x_notV ?_
  | with_reducible refine x_if ?_
  | with_reducible refine x_yes ?_
  | with_reducible refine x_un ?_
  | with_reducible refine x_tup ?_
  | with_reducible refine x_lst ?_
  | with_reducible refine x_callK ?_
  | with_reducible refine x_callK0 ?_
  | with_reducible refine x_bm ?_
  | with_reducible refine x_bm0 ?_
  | with_reducible refine x_tyS ?_
  | with_reducible refine x_sl ?_
  | with_reducible refine x_nopart ?_
  | with_reducible refine x_part ?_
  | with_reducible refine x_fmt0 ?_
  | with_reducible refine x_gc ?_
  | with_reducible refine x_gz ?_
  | with_reducible refine x_ckw ?_
  | with_reducible refine x_fmt ?_
  | with_reducible refine x_chain ?_
  | with_reducible refine a_ii ?_
  | ((with_reducible refine sl_to ?rda ?rdb ?_); (case rda => walk_at "len"); (case rdb => walk_at "len"))
  | ((with_reducible refine sl_from ?rda ?rdb ?_); (case rda => walk_at "len"); (case rdb => walk_at "len"))
  | ((with_reducible refine sl_mid ?rda ?rdb ?rdc ?_); (case rda => walk_at "len"); (case rdb => walk_at "len"); (case rdc => walk_at "len"))
  | ((with_reducible refine a_SS ?rda ?_); (case rda => walk_at "len"))
  | ((with_reducible refine ln_S ?rda ?_); (case rda => walk_at "len"))
  | with_reducible refine e_SS ?_
  | with_reducible refine ne_SS ?_
  | with_reducible refine s_ii ?_
  | ((with_reducible refine md_ii ?rdc ?_); (case rdc => first | decide | assumption | omega))
  | with_reducible refine n_i ?_
  | with_reducible refine e_ii ?_
  | with_reducible refine e_bb ?_
  | with_reducible refine ne_ii ?_
  | with_reducible refine ne_bb ?_
  | with_reducible refine lt_ii ?_
  | with_reducible refine lt_ss ?_
  | with_reducible refine le_ii ?_
  | with_reducible refine le_ss ?_
  | with_reducible refine gt_ii ?_
  | with_reducible refine gt_ss ?_
  | with_reducible refine ge_ii ?_
  | with_reducible refine e_ss ?_
  | with_reducible refine ne_ss ?_
  | with_reducible refine is_N ?_
  | with_reducible refine is_T ?_
  | with_reducible refine is_B ?_
  | with_reducible refine isn_N ?_
  | with_reducible refine isn_T ?_
  | with_reducible refine isn_B ?_
  | with_reducible refine in_s ?_
  | with_reducible refine nin_s ?_
  | with_reducible refine i_i ?_
  | with_reducible refine i_b ?_
  | with_reducible refine ab_i ?_
  | with_reducible refine mx_ii ?_
  | with_reducible refine mn_ii ?_
  | with_reducible refine ty_N ?_
  | with_reducible refine ty_B ?_
  | with_reducible refine ty_I ?_
  | with_reducible refine ty_S ?_
  | with_reducible refine ma_s ?_
  | with_reducible refine mp_s ?_
  | with_reducible refine mdg_s ?_
  | with_reducible refine mf_s ?_
  | with_reducible refine iteT ?_
  | with_reducible refine iteF ?_
  | with_reducible refine iteNt ?_
  | with_reducible refine iteNf ?_
  | with_reducible refine iteTd (by decide) ?_
  | with_reducible refine iteFd (by decide) ?_
  | with_reducible refine iteNd (by decide) ?_
  | with_reducible refine iteNdF (by decide) ?_
  | ((with_reducible refine iteFd ?rdn ?_); (case rdn => (intro rdz; cases rdz; done)))
  | ((with_reducible refine iteNdF ?rdn ?_); (case rdn => (intro rdz; cases rdz; done))))
local macro_rules | `(tactic| walk_at "rd") => `(tactic| (repeat walk_at "rd1"))
section
variable {P : Program} {w : World} {K : PySem.W.Frag} {mg : Str → Option Value} {base : Heap}
def sp__law_digits (K : PySem.W.Frag) : Sp := fun vs H Q _ => ∃ n m : Nat, vs = [.int n, .int m] ∧ n < 10 ^ m ∧ m ≠ 0 ∧ m ≤ 9 ∧ n ≤ 999999999 ∧ Q (.str (S (pad m n))) H
theorem ok__law_digits (Y : Fx K mg) : FnOk P w K mg base CX0 1 Y.a__law_digits Y.fd__law_digits ["_law_number_here", "_law_many"] (sp__law_digits K) := by
  refine Y.F__law_digits.ok sc__law_digits (fun vs H Q E h => ?_) (fun cdv A outer s H vs Q E hr h => ?_)
  · obtain ⟨n, m, rfl, _⟩ := h
    rfl
  · obtain ⟨n, m, rfl, hn, hm, h9, hb, q⟩ := h
    refine ⟨_, b__law_digits Y hr, ?_⟩
    show t__law_digits K _ [some (.int n), some (.int m)] H
    unfold t__law_digits
    walk_at "rd"
    refine pw_ii ⟨by decide, by decide, by decide⟩ ?_
    walk_at "rd"
    rw [show (10 : Int) ^ Int.toNat 9 + (n : Int) = ((1000000000 + n : Nat) : Int) by
      show (1000000000 : Int) + n = _
      omega]
    refine st_i ?_ ?_
    · rw [Int.natAbs_natCast]
      exact Nat.lt_of_lt_of_le ((Nat.log2_lt (by omega)).mpr (show 1000000000 + n < 2 ^ 31 by omega)) (by decide)
    · rw [show (toString ((1000000000 + n : Nat) : Int) : Str) = S (TL.numL (1000000000 + n)) from SX.num_S _]
      have nl : (TL.numL (1000000000 + n)).length ≤ 10 := TL.numL_len (by decide) (by omega)
      walk_at "rd"
      rw [show ((10 : Int) - (m : Int)).toNat = 10 - m by omega, digits_of hn hm h9]
      exact q
def sp__law_written (K : PySem.W.Frag) : Sp := fun vs H Q _ => ∃ (x : V) (L : Lt), vs = [x] ∧ Dp K H x (letD L) ∧ LtOk L ∧ (rowsN L).length ≤ 20 ∧ Q (.str (S (letT L))) H
theorem ok__law_written (Y : Fx K mg) : FnOk P w K mg base CX0 2 Y.a__law_written Y.fd__law_written ["_law_letter_here"] (sp__law_written K) := by
  refine Y.F__law_written.ok sc__law_written (fun vs H Q E h => ?_) (fun cdv A outer s H vs Q E hr h => ?_)
  · obtain ⟨x, L, rfl, _⟩ := h
    rfl
  · obtain ⟨v, L, rfl, hv, hok, hn, q⟩ := h
    refine ⟨_, b__law_written Y (ok__law_digits Y) (ok__law_rows Y) hr, ?_⟩
    show t__law_written K _ _ _ [some v, none] H
    unfold t__law_written
    rw [show ("none" : Str) = S noneL from rfl, show ("part" : Str) = S partL from rfl, show ("N" : Str) = S [78] from rfl, show ("P" : Str) = S [80] from rfl, show ("S" : Str) = S [83] from rfl]
    cases L with
    | non =>
      obtain ⟨p, us, rfl, hp, ha⟩ := dp_tup' (ds := [.str (S noneL)]) hv
      cases ha with
      | cons h0 ha =>
        cases ha
        have := dp_str' h0
        subst this
        walk_at "rd"
        refine ix_T hp (by rfl) ?_
        walk_at "rd"
        exact q
    | part n cs =>
      obtain ⟨h1, h2, h3, h4⟩ := hok
      obtain ⟨p, u0, u1, u2, rfl, hp, hu0, hu1, hu2⟩ := dp_tup3 (show Dp K H v (.tuple [.str (S partL), .int n, chsD cs]) from hv)
      have := dp_str' hu0
      subst this
      have := dp_int' hu1
      subst this
      have hcl : cs.length ≤ 20 := hn
      have hg := lg_of h3 h4
      have hle := rowsT_le hg
      have hle2 : (rowsT cs).length ≤ 402000 := Nat.le_trans hle (by omega)
      have p8 : (pad 8 n).length = 8 := pad8_le h2
      walk_at "rd"
      refine ix_T hp (by rfl) ?_
      walk_at "rd"
      refine ix_T hp (at_last (n := 2) rfl rfl) ?_
      walk_at "rd"
      refine ⟨u2, cs, rfl, hu2, hg, hcl, ?_⟩
      show gName 1 (.str (S (rowsT cs))) _ H _
      walk_at "rd"
      refine ix_T hp (by rfl) ?_
      walk_at "rd"
      refine ix_T hp (by rfl) ?_
      walk_at "rd"
      refine ⟨n, 8, rfl, by omega, by decide, by decide, by omega, ?_⟩
      walk_at "rd"
      exact q
    | piece n i pp cs =>
      obtain ⟨h1, h2, h3, h4, h5, h6, h7⟩ := hok
      obtain ⟨p, us, rfl, hp, ha⟩ := dp_tup' (ds := [.str (S pieceL), .int n, .int i, .int pp, chsD cs]) hv
      obtain ⟨u4, rfl, hu4⟩ : ∃ u4, us = [.str (S pieceL), .int n, .int i, .int pp, u4] ∧ Dp K H u4 (chsD cs) := by
        cases ha with
        | cons a0 ha =>
          cases ha with
          | cons a1 ha =>
            cases ha with
            | cons a2 ha =>
              cases ha with
              | cons a3 ha =>
                cases ha with
                | cons a4 ha =>
                  cases ha
                  rw [dp_str' a0, dp_int' a1, dp_int' a2, dp_int' a3]
                  exact ⟨_, rfl, a4⟩
      have hcl : cs.length ≤ 20 := hn
      have hg := lg_of h5 h7
      have hle := rowsT_le hg
      have hle2 : (rowsT cs).length ≤ 402000 := Nat.le_trans hle (by omega)
      have p8 : (pad 8 n).length = 8 := pad8_le h1
      have p4 : (pad 4 i).length = 4 := pad_lenW (by decide) (by omega)
      have p5 : (pad 4 pp).length = 4 := pad_lenW (by decide) (by omega)
      walk_at "rd"
      refine ix_T hp (by rfl) ?_
      walk_at "rd"
      refine ix_T hp (at_last (n := 4) rfl rfl) ?_
      walk_at "rd"
      refine ⟨u4, cs, rfl, hu4, hg, hcl, ?_⟩
      show gName 1 (.str (S (rowsT cs))) _ H _
      walk_at "rd"
      refine ix_T hp (by rfl) ?_
      walk_at "rd"
      refine ix_T hp (by rfl) ?_
      walk_at "rd"
      refine ⟨n, 8, rfl, by omega, by decide, by decide, by omega, ?_⟩
      walk_at "rd"
      refine ix_T hp (by rfl) ?_
      walk_at "rd"
      refine ⟨i, 4, rfl, by omega, by decide, by decide, by omega, ?_⟩
      walk_at "rd"
      refine ix_T hp (by rfl) ?_
      walk_at "rd"
      refine ⟨pp, 4, rfl, by omega, by decide, by decide, by omega, ?_⟩
      walk_at "rd"
      exact q
/-! the law's own reading -/
def letR (l : List Nat) : PyData := if isLetD (letF l) = true then letF l else .none
def sp__law_read (K : PySem.W.Frag) : Sp := fun vs H Q _ => ∃ l : List Nat, vs = [.str (S l)] ∧ isT l = true ∧ l.length ≤ 300000 ∧ ∀ v H', Same H H' → Dp K H' v (letR l) → Q v H'
theorem pv_none : pv' none = -1 := rfl
theorem pv_some (n : Nat) : pv' (some n) = n := rfl
theorem idx_num (p i : Nat) : isIdxD (.int p) (.int i) = (decide ((0 : Int) ≤ i) && decide ((i : Int) ≤ (p : Int) - 1)) := rfl
theorem ok__law_read (Y : Fx K mg) : FnOk P w K mg base CX0 3 Y.a__law_read Y.fd__law_read ["_law_text_here"] (sp__law_read K) := by
  refine Y.F__law_read.ok sc__law_read (fun vs H Q E h => ?_) (fun cdv A outer s H vs Q E hr h => ?_)
  · obtain ⟨l, rfl, _⟩ := h
    rfl
  · obtain ⟨l, rfl, hT, hl, q⟩ := h
    refine ⟨_, b__law_read Y (ok__law_number Y) (ok__law_read_rows Y) hr, ?_⟩
    show t__law_read K _ _ _ [some (.str (S l)), none, none, none, none, none, none] H
    unfold t__law_read
    rw [show ("none" : Str) = S noneL from rfl, show ("part" : Str) = S partL from rfl, show ("piece" : Str) = S pieceL from rfl, show ("N" : Str) = S [78] from rfl, show ("P" : Str) = S [80] from rfl, show ("S" : Str) = S [83] from rfl]
    have qn : isLetD (letF l) = false → ∀ H', Same H H' → Q .non H' := fun e H' h => q _ _ h (by unfold letR; rw [if_neg (by rw [e]; decide)]; exact .non)
    have qy : isLetD (letF l) = true → ∀ v H', Same H H' → Dp K H' v (letF l) → Q v H' := fun e v H' h d => q _ _ h (by unfold letR; rw [if_pos e]; exact d)
    clear q
    walk_at "rd"
    refine ⟨l, 1, 8, rfl, hT, hl, by decide, by decide, fun H1 hS1 => ?_⟩
    walk_at "rd"
    refine ite2' (fun e => ?_) (fun e => ?_)
    · have e' := of_decide_eq_true e
      subst e'
      walk_at "rd"
      refine ⟨by show 1 ≤ sizeLine; decide, fun t ht => ?_⟩
      exact qy rfl _ _ (hS1.trans (same_upd ht)) (.tup (tup_of upd_same) (.cons (.str _) .nil))
    · have hN := of_decide_eq_false e
      clear e
      have F80 : l.take 1 = [80] → letF l = .tuple [.str (S partL), noD (numAt l 1 8), csD (chsR l l.length 9)] := fun e => by unfold letF; rw [if_pos e]
      have F83 : l.take 1 = [83] → letF l = .tuple [.str (S pieceL), noD (numAt l 1 8), noD (numAt l 9 4), noD (numAt l 13 4), csD (chsR l l.length 17)] := fun e => by unfold letF; rw [if_neg (by rw [e]; decide), if_pos e]
      have F0 : l.take 1 ≠ [80] → l.take 1 ≠ [83] → isLetD (letF l) = false := fun e1 e2 => by unfold letF; rw [if_neg e1, if_neg e2, if_neg hN]; rfl
      have rest : ∀ w : Int, w = pv' (numAt l 1 8) → (l.take 1 = [80] → isLetD (letF l) = false) → tSeq (tIfS (tOr (tTest (tOp (rNE K) (tSl (rSL K) (tVar 0) tNoPart (tPart (tC (.int 1)))) (tC (.str (S [83]))))) (tTest (tOp rLT (tVar 1) (tC (.int 0))))) (tRet (tC .non)) tNext)
        (tSeq (tPar3 3 4 2 (tCons (tCall (sp__law_number K) [] E0 (tCons (tVar 0) (tCons (tC (.int 9)) (tCons (tC (.int 4)) tNil)))) (tCons (tCall (sp__law_number K) [] E0 (tCons (tVar 0) (tCons (tC (.int 13)) (tCons (tC (.int 4)) tNil)))) (tCons (tCall (sp__law_read_rows K) [] E0 (tCons (tSl (rSL K) (tVar 0) (tPart (tC (.int 17))) tNoPart) tNil)) tNil))))
        (tSeq (tIfS (tOr (tTest (tOp (rIS K) (tVar 2) (tC .non))) (tOr (tTest (tOp rLT (tVar 3) (tC (.int 0)))) (tOr (tTest (tOp rLE (tVar 4) (tVar 3))) (tTest (tOp (rNE K) (tLc (iTup K (tVar 2)) (gTup K 2 (gCons (gName 5) (gCons (gName 6) gNil))) (tTest (tOp (rIS K) (tVar 6) (tC .non))) (tVar 5) [5, 6]) (tLst tNil)))))) (tRet (tC .non)) tNext)
        (tRet (tTup (tCons (tC (.str (S pieceL))) (tCons (tVar 1) (tCons (tVar 3) (tCons (tVar 4) (tCons (tVar 2) tNil))))))))) { nx := fun _ H' => Q .non H', rt := Q } [some (.str (S l)), some (.int w), none, none, none, none, none] H1 := by
        intro w hw h80
        walk_at "rd"
        rw [show Int.toNat 1 = 1 from rfl]
        refine ite2' (fun e => ?_) (fun e => ?_)
        · rw [Bool.not_eq_true'] at e
          have e1 := of_decide_eq_false e
          refine iteT ?_
          walk_at "rd"
          refine qn ?_ _ hS1
          by_cases e2 : l.take 1 = [80]
          · exact h80 e2
          · exact F0 e2 e1
        · rw [Bool.not_eq_false'] at e
          have e1 := of_decide_eq_true e
          have hF := F83 e1
          rw [hF] at qn qy
          rw [let_piece] at qn qy
          clear F80 F83 F0 h80 hF
          walk_at "rd"
          cases hn : numAt l 1 8 with
          | none =>
            rw [hn] at hw qn
            subst hw
            refine iteTd (show (pv' none < 0) by decide) ?_
            walk_at "rd"
            exact qn rfl _ hS1
          | some n =>
            rw [hn] at hw qn qy
            have hnl := (numAt_lt hn).1
            have ew : w = (n : Int) := hw
            subst ew
            clear hw
            have en : isNumD 0 99999999 (noD (some n)) = true := by
              show (decide ((0 : Int) ≤ n) && decide ((n : Int) ≤ 99999999)) = true
              rw [decide_eq_true (by omega), decide_eq_true (by omega)]
              rfl
            rw [en, Bool.true_and] at qn qy
            refine iteFd (show ¬ ((n : Int) < 0) by omega) ?_
            refine s_next ?_
            walk_at "rd"
            refine ⟨l, 9, 4, rfl, hT, hl, by decide, by decide, fun H2 hS2 => ?_⟩
            walk_at "rd"
            refine ⟨l, 13, 4, rfl, hT, hl, by decide, by decide, fun H3 hS3 => ?_⟩
            walk_at "rd"
            rw [show Int.toNat 17 = 17 from rfl]
            refine ⟨l.drop 17, rfl, isT_drop _ hT, by rw [List.length_drop]; omega, fun v H4 hS4 hv => ?_⟩
            have hS := ((hS1.trans hS2).trans hS3).trans hS4
            clear hS1 hS2 hS3 hS4
            refine ⟨_, _, _, rfl, ?_⟩
            show tSeq _ _ _ [some (.str (S l)), some (.int n), some v, some (.int (pv' (numAt l 9 4))), some (.int (pv' (numAt l 13 4))), none, none] H4
            have low : ∀ p, numAt l 13 4 = some p → chsR l l.length 17 = chsR (l.drop 17) (l.drop 17).length 0 := fun p hp => rows_drop (numAt_lt hp).2
            unfold RsV at hv
            have bad : v = .non → (isNumD 1 9999 (noD (numAt l 13 4)) && (isIdxD (noD (numAt l 13 4)) (noD (numAt l 9 4)) && (isEntD (csD (chsR l l.length 17)) && lineB (csD (chsR l l.length 17))))) = false := by
              intro ev
              cases hp : numAt l 13 4 with
              | none => rfl
              | some p =>
                rw [low p hp]
                cases ho : chsR (l.drop 17) (l.drop 17).length 0 with
                | none => show (_ && (_ && (false && _))) = false; rw [Bool.false_and, Bool.and_false, Bool.and_false]
                | some cs =>
                  rw [ho] at hv
                  have hv' : if ascL (cs.map (·.1)) = true then ∃ p us, v = .ref p ∧ H4 p = some (.tup us) ∧ ChV H4 us cs ∧ ∀ c ∈ cs, ShT c else v = .non := hv
                  have ha : ascL (cs.map (·.1)) = false := by
                    cases h : ascL (cs.map (·.1)) with
                    | false => rfl
                    | true =>
                      rw [if_pos h] at hv'
                      obtain ⟨p, us, e, _⟩ := hv'
                      rw [ev] at e
                      cases e
                  have e5 : isEntD (csD (some cs)) = false := by
                    show (isChsD (chsD cs) && entB (chsD cs)) = false
                    rw [isChs_eq, ha, Bool.and_false]
                    rfl
                  rw [e5, Bool.false_and, Bool.and_false, Bool.and_false]
            have sort : v = .non ∨ ∃ cs p us, chsR (l.drop 17) (l.drop 17).length 0 = some cs ∧ ascL (cs.map (·.1)) = true ∧ v = .ref p ∧ H4 p = some (.tup us) ∧ ChV H4 us cs ∧ ∀ c ∈ cs, ShT c := by
              cases ho : chsR (l.drop 17) (l.drop 17).length 0 with
              | none => rw [ho] at hv; exact .inl hv
              | some cs =>
                rw [ho] at hv
                have hv' : if ascL (cs.map (·.1)) = true then ∃ p us, v = .ref p ∧ H4 p = some (.tup us) ∧ ChV H4 us cs ∧ ∀ c ∈ cs, ShT c else v = .non := hv
                cases h : ascL (cs.map (·.1)) with
                | false => rw [if_neg (by rw [h]; decide)] at hv'; exact .inl hv'
                | true =>
                  rw [if_pos h] at hv'
                  obtain ⟨p, us, e1, e2, e3, e4⟩ := hv'
                  exact .inr ⟨cs, p, us, rfl, h, e1, e2, e3, e4⟩
            clear hv
            rcases sort with ev | ⟨cs, p, us, ho, hasc, rfl, hp, hV, hsh⟩
            · have hb := bad ev
              subst ev
              walk_at "rd"
              exact qn hb _ hS
            · clear bad
              have hul := hV.1
              walk_at "rd"
              cases hi : numAt l 9 4 with
              | none =>
                rw [hi] at qn
                refine iteTd (show (pv' none < 0) by decide) ?_
                refine iteT ?_
                walk_at "rd"
                refine qn ?_ _ hS
                have e6 : isIdxD (noD (numAt l 13 4)) (noD none) = false := by cases numAt l 13 4 <;> rfl
                rw [e6, Bool.false_and, Bool.and_false]
              | some i =>
                rw [hi] at qn qy
                refine iteFd (show ¬ (pv' (some i) < 0) by rw [pv_some]; omega) ?_
                walk_at "rd"
                cases hpp : numAt l 13 4 with
                | none =>
                  rw [hpp] at qn
                  refine iteTd (show (pv' none ≤ pv' (some i)) by rw [pv_some, pv_none]; omega) ?_
                  refine iteT ?_
                  walk_at "rd"
                  exact qn rfl _ hS
                | some pp =>
                  have hpl := (numAt_lt hpp).1
                  rw [low pp hpp, ho] at qn qy
                  rw [hpp] at qn qy
                  by_cases hlt : pp ≤ i
                  · refine iteTd (show (pv' (some pp) ≤ pv' (some i)) by rw [pv_some, pv_some]; omega) ?_
                    refine iteT ?_
                    walk_at "rd"
                    refine qn ?_ _ hS
                    have e6 : isIdxD (noD (some pp)) (noD (some i)) = false := by
                      show (decide ((0 : Int) ≤ i) && decide ((i : Int) ≤ (pp : Int) - 1)) = false
                      rw [decide_eq_false (show ¬ ((i : Int) ≤ (pp : Int) - 1) by omega), Bool.and_false]
                    rw [e6, Bool.false_and, Bool.and_false]
                  · refine iteFd (show ¬ (pv' (some pp) ≤ pv' (some i)) by rw [pv_some, pv_some]; omega) ?_
                    walk_at "rd"
                    have e6 : isIdxD (noD (some pp)) (noD (some i)) = true := by
                      show (decide ((0 : Int) ≤ i) && decide ((i : Int) ≤ (pp : Int) - 1)) = true
                      rw [decide_eq_true (show ((i : Int) ≤ (pp : Int) - 1) by omega), decide_eq_true (show ((0 : Int) ≤ i) by omega)]
                      rfl
                    have e7 : isNumD 1 9999 (noD (some pp)) = true := by
                      show (decide ((1 : Int) ≤ pp) && decide ((pp : Int) ≤ 9999)) = true
                      rw [decide_eq_true (by omega), decide_eq_true (by omega)]
                      rfl
                    have e8 : lineB (csD (some cs)) = true := by
                      show lineB (chsD cs) = true
                      rw [line_chs]
                      exact lines_ln (chsR_ln _ _ _ ho)
                    have e9 : isEntD (csD (some cs)) = someB cs := by
                      show (isChsD (chsD cs) && entB (chsD cs)) = someB cs
                      rw [isChs_sh hsh, hasc, Bool.true_and, ent_chs]
                    rw [e6, e7, e8, e9, Bool.true_and, Bool.true_and, Bool.and_true] at qn qy
                    have hcl := chsR_len _ _ _ ho
                    rw [List.length_drop] at hcl
                    refine lcT_mk (tup_of hp) (fun D m H5 => Same H4 H5 ∧ H5 D = some (.lst (tv (((cs.take m).filter fun c => c.2.isNone).map (·.1))))) (fun D hD => ⟨same_upd hD, upd_same⟩) (fun D m H5 hD _ hP => same_sqt hP.1 (tup_of hp)) (fun D m x H5 hD hxi hP => ?_) (fun D H5 hD hP => ?_)
                    · obtain ⟨hS5, hH⟩ := hP
                      have hm : m < cs.length := by rw [← hul]; exact (List.getElem?_eq_some_iff.mp hxi).1
                      obtain ⟨tc, ht, hdt⟩ := hV.2 m _ (List.getElem?_eq_getElem hm)
                      rw [hxi] at ht
                      cases ht
                      have hc := List.getElem?_eq_getElem hm
                      generalize cs[m] = c at hdt hc
                      refine gt_T (tup_of (hS5 _ _ hdt)) rfl ?_
                      refine x_gc ?_
                      refine s_gn ?_
                      refine x_gc ?_
                      refine s_gn ?_
                      refine x_gz ?_
                      refine ⟨rfl, ?_⟩
                      have fl : (((cs.take m).filter fun c => c.2.isNone).map (·.1)).length ≤ 300000 := by
                        rw [List.length_map]
                        exact Nat.le_trans (List.length_filter_le ..) (by rw [List.length_take]; omega)
                      obtain ⟨k, o⟩ := c
                      cases o with
                      | none =>
                        show tTest _ [some (.str (S l)), some (.int n), some (.ref p), _, _, some (.str (S k)), some .non] H5 _
                        walk_at "rd"
                        refine ⟨_, hH, Nat.lt_of_le_of_lt (show _ ≤ 300000 by rw [tv_len]; omega) (by decide), same_mut hS5 hD, ?_⟩
                        rw [upd_same, take_snoc hc, List.filter_append, List.map_append, tv_app]
                        rfl
                      | some y =>
                        show tTest _ [some (.str (S l)), some (.int n), some (.ref p), _, _, some (.str (S k)), some (.str (S y))] H5 _
                        walk_at "rd"
                        refine ⟨hS5, ?_⟩
                        rw [hH, take_snoc hc, List.filter_append]
                        simp
                    · obtain ⟨hS5, hH⟩ := hP
                      rw [hul, List.take_of_length_le (Nat.le_refl _)] at hH
                      walk_at "rd"
                      refine ⟨Nat.zero_le _, fun B hB => ?_⟩
                      have S6 := same_upd hB (o := .lst [])
                      refine ne_nil_list (fun x hx => ?_) (S6 _ _ hH) upd_same ?_
                      · obtain ⟨c, hc, rfl⟩ := List.mem_map.mp hx
                        exact (hsh c (List.mem_filter.mp hc).1).1
                      · have en2 : (!decide (((cs.filter fun c => c.2.isNone).map (·.1)) = [])) = !someB cs := by
                          congr 1
                          unfold someB
                          rw [Bool.eq_iff_iff, decide_eq_true_eq, List.map_eq_nil_iff, List.filter_eq_nil_iff, List.all_eq_true]
                          constructor
                          · intro h c hc
                            have := h c hc
                            cases hx : c.2 with
                            | none => rw [hx] at this; exact absurd rfl this
                            | some v => rfl
                          · intro h c hc z
                            have := h c hc
                            cases hx : c.2 with
                            | none => rw [hx] at this; cases this
                            | some v => rw [hx] at z; cases z
                        rw [en2]
                        have hS6 := hS5.trans S6
                        generalize upd H5 B (.lst []) = H6 at hS6 ⊢
                        cases hsb : someB cs with
                        | false =>
                          walk_at "rd"
                          exact qn hsb _ (hS.trans hS6)
                        | true =>
                          walk_at "rd"
                          refine ⟨by show 5 ≤ sizeLine; decide, fun t ht => ?_⟩
                          refine qy hsb _ _ ((hS.trans hS6).trans (same_upd ht)) (.tup (tup_of upd_same) (.cons (.str _) (.cons (.int _) (.cons (.int _) (.cons (.int _) (.cons (dp_mono (hS6.trans (same_upd ht)) _ _ ?_) .nil))))))
                          exact .tup (tup_of hp) hV.dp
      walk_at "rd"
      rw [show Int.toNat 1 = 1 from rfl]
      refine ite2' (fun e => ?_) (fun e => ?_)
      · have e1 := of_decide_eq_true e
        have hF := F80 e1
        walk_at "rd"
        cases hn : numAt l 1 8 with
        | none =>
          refine iteFd (show ¬ (0 < pv' none) by decide) ?_
          refine s_next ?_
          refine rest _ (by rw [hn]) fun _ => ?_
          rw [hF, let_part, hn]
          rfl
        | some n =>
          have hnl := numAt_lt hn
          by_cases h0 : n = 0
          · subst h0
            refine iteFd (show ¬ (0 < pv' (some 0)) by decide) ?_
            refine s_next ?_
            refine rest _ (by rw [hn]) fun _ => ?_
            rw [hF, let_part, hn]
            rfl
          · clear rest F83 F0
            rw [hF] at qn qy
            rw [let_part] at qn qy
            rw [hn, rows_drop hnl.2] at qn qy
            have en : isNumD 1 99999999 (noD (some n)) = true := by
              show (decide ((1 : Int) ≤ n) && decide ((n : Int) ≤ 99999999)) = true
              rw [decide_eq_true (by omega), decide_eq_true (by have := hnl.1; omega)]
              rfl
            rw [en, Bool.true_and] at qn qy
            refine iteTd (show (0 < pv' (some n)) by rw [pv_some]; omega) ?_
            show tSeq _ _ _ [some (.str (S l)), some (.int n), none, none, none, none, none] H1
            walk_at "rd"
            rw [show Int.toNat 9 = 9 from rfl]
            refine ⟨l.drop 9, rfl, isT_drop _ hT, by rw [List.length_drop]; omega, fun v H4 hS4 hv => ?_⟩
            have hS := hS1.trans hS4
            refine s_gn ?_
            show tRet _ _ [some (.str (S l)), some (.int n), some v, none, none, none, none] H4
            unfold RsV at hv
            cases ho : chsR (l.drop 9) (l.drop 9).length 0 with
            | none =>
              rw [ho] at hv qn
              have ev : v = .non := hv
              subst ev
              walk_at "rd"
              exact qn rfl _ hS
            | some cs =>
              rw [ho] at hv qn qy
              have hv' : if ascL (cs.map (·.1)) = true then ∃ p us, v = .ref p ∧ H4 p = some (.tup us) ∧ ChV H4 us cs ∧ ∀ c ∈ cs, ShT c else v = .non := hv
              cases hasc : ascL (cs.map (·.1)) with
              | false =>
                rw [if_neg (by rw [hasc]; decide)] at hv'
                subst hv'
                walk_at "rd"
                refine qn ?_ _ hS
                show (isChsD (chsD cs) && lineB (chsD cs)) = false
                rw [isChs_eq, hasc, Bool.and_false, Bool.false_and]
              | true =>
                rw [if_pos hasc] at hv'
                obtain ⟨p, us, rfl, hp, hV, hsh⟩ := hv'
                have hy : (isChsD (csD (some cs)) && lineB (csD (some cs))) = true := by
                  show (isChsD (chsD cs) && lineB (chsD cs)) = true
                  rw [isChs_sh hsh, hasc, line_chs, lines_ln (chsR_ln _ _ _ ho)]
                  rfl
                walk_at "rd"
                refine ⟨by show 3 ≤ sizeLine; decide, fun t ht => ?_⟩
                refine qy hy _ _ (hS.trans (same_upd ht)) (.tup (tup_of upd_same) (.cons (.str _) (.cons (.int _) (.cons (dp_mono (same_upd ht) _ _ ?_) .nil))))
                exact .tup (tup_of hp) hV.dp
      · have e1 := of_decide_eq_false e
        refine iteF ?_
        refine s_next ?_
        exact rest _ rfl fun z => absurd z e1
/-! told, refused -/
def sp__law_told (K : PySem.W.Frag) : Sp := fun vs H Q _ => ∃ l : List Nat, vs = [.str (S l)] ∧ isT l = true ∧ l.length ≤ 300000 ∧ ∀ v H', Same H H' → Dp K H' v (letR l) → Q v H'
theorem ok__law_told (Y : Fx K mg) : FnOk P w K mg base CX0 8 Y.a__law_told Y.fd__law_told ["_law_text_here"] (sp__law_told K) := by
  refine Y.F__law_told.ok sc__law_told (fun vs H Q E h => ?_) (fun cdv A outer st H vs Q E hr h => ?_)
  · obtain ⟨l, rfl, _⟩ := h
    rfl
  · obtain ⟨l, rfl, hT, hl, q⟩ := h
    refine ⟨_, b__law_told Y (ok_letter_told Y) hr, ?_⟩
    show t__law_told K Y _ _ [some (.str (S l)), none] H
    unfold t__law_told
    walk_at "rd"
    refine ⟨_, .str (S l), rfl, .str _, fun l' e _ => ?_, fun e => ?_⟩
    · have e2 := S_inj (PyData.str.inj e)
      subst e2
      refine ⟨hl, fun hd v H1 hS hv => ?_, fun hd H1 hS => ?_⟩
      · refine s_gn ?_
        show tRet _ _ [some (.str (S l)), some v] H1
        walk_at "rd"
        exact q _ _ hS (by unfold letR; rw [if_pos hd]; exact hv)
      · refine w_hit Y.m_InvalidLetter_InvalidLetter fun a _ => ?_
        walk_at "rd"
        exact q _ _ hS (by unfold letR; rw [if_neg (by rw [hd]; decide)]; exact .non)
    · have e' : isT l = false := e
      rw [hT] at e'
      cases e'
def sp__law_no_text (K : PySem.W.Frag) : Sp := fun vs H Q _ => ∃ (v : V) (d : PyData), vs = [v] ∧ Dp K H v d ∧ isTxD d = false ∧ Q (.bl true) H
theorem ok__law_no_text (Y : Fx K mg) : FnOk P w K mg base CX0 8 Y.a__law_no_text Y.fd__law_no_text ["_law_value"] (sp__law_no_text K) := by
  refine Y.F__law_no_text.ok sc__law_no_text (fun vs H Q E h => ?_) (fun cdv A outer st H vs Q E hr h => ?_)
  · obtain ⟨v, d, rfl, _⟩ := h
    rfl
  · obtain ⟨v, d, rfl, hv, hd, q⟩ := h
    refine ⟨_, b__law_no_text Y (ok_letter_told Y) hr, ?_⟩
    show t__law_no_text K Y _ _ [some v, none] H
    unfold t__law_no_text
    walk_at "rd"
    refine ⟨v, d, rfl, hv, fun l e hT => ?_, fun _ => ?_⟩
    · subst e
      have hd' : isT l = false := hd
      rw [hT] at hd'
      cases hd'
    · refine w_hit Y.m_InvalidText_InvalidText fun a _ => ?_
      walk_at "rd"
      exact q
def sp__law_no_letter (K : PySem.W.Frag) : Sp := fun vs H Q _ => ∃ (v : V) (d : PyData), vs = [v] ∧ Dp K H v d ∧ LetSz d ∧ isLetD d = false ∧ ∀ H', Same H H' → Q (.bl true) H'
theorem ok__law_no_letter (Y : Fx K mg) : FnOk P w K mg base CX0 8 Y.a__law_no_letter Y.fd__law_no_letter ["_law_value"] (sp__law_no_letter K) := by
  refine Y.F__law_no_letter.ok sc__law_no_letter (fun vs H Q E h => ?_) (fun cdv A outer st H vs Q E hr h => ?_)
  · obtain ⟨v, d, rfl, _⟩ := h
    rfl
  · obtain ⟨v, d, rfl, hv, hz, hd, q⟩ := h
    refine ⟨_, b__law_no_letter Y (ok_letter_text Y) hr, ?_⟩
    show t__law_no_letter K Y _ _ [some v, none] H
    unfold t__law_no_letter
    walk_at "rd"
    refine ⟨v, d, rfl, hv, hz, fun e => ?_, fun _ H' hS => ?_⟩
    · rw [hd] at e
      cases e
    · refine w_hit Y.m_InvalidLetter_InvalidLetter fun a _ => ?_
      walk_at "rd"
      exact q _ hS
end
end My

set_option Elab.async false
set_option linter.all false
set_option maxRecDepth 100000
set_option maxHeartbeats 1000000
namespace My
open PySem PySem.Spec PyProof.Rows L2
local macro_rules | `(tactic| walk_at "len") => `(tactic| first | assumption | omega | decide | (simp only [List.length_append, List.length_take, List.length_drop, List.length_cons, List.length_nil, List.length_replicate]; omega))
local macro_rules | `(tactic| walk_at "side") => `(tactic| first | assumption | exact Nat.zero_le _ | decide | omega)
local macro_rules | `(tactic| walk_at "rd1") => `(tactic| first
  | with_reducible refine s_seq ?_
  | with_reducible refine x_gsub ?_
  | with_reducible refine s_asg ?_
  | ((with_reducible refine s_gn ?_); dsimp only [List.set])
  | ((with_reducible refine x_var (v := ?rdv) ?rdhv ?_); (case rdhv => rfl))
  | with_reducible refine x_c ?_
  | with_reducible refine x_op ?_
  | with_reducible refine x_cons ?_
  | with_reducible refine x_nil ?_
  | with_reducible refine x_cb ?_
  | with_reducible refine x_call ?_
  | with_reducible refine x_callS ?_
  | with_reducible refine x_revT ?_
  | with_reducible refine x_dget ?_
  | with_reducible refine x_din ?_
  | with_reducible refine x_dnotin ?_
  | with_reducible refine s_dput ?_
  | with_reducible refine x_dnew ?_
  | with_reducible refine s_try ?_
  | with_reducible refine s_raise ?_
  | with_reducible refine s_if ?_
  | with_reducible refine s_ret ?_
  | with_reducible refine s_retN ?_
  | with_reducible refine s_next ?_
  | with_reducible refine s_brk ?_
  | with_reducible refine s_cont ?_
  | with_reducible refine s_drop ?_
  | with_reducible refine s_par ?_
  | with_reducible refine s_par3 ?_
  | ((with_reducible refine s_p2 ?_); dsimp only [List.set])
  | ((with_reducible refine s_p3 ?_); dsimp only [List.set])
  | with_reducible refine f_r1 ?_
  | with_reducible refine f_r2 ?_
  | with_reducible refine f_l ?_
  | with_reducible refine f_t ?_
  | with_reducible refine f_s ?_
  | with_reducible refine c_r1 ?_
  | with_reducible refine c_r2 ?_
  | with_reducible refine c_l ?_
  | with_reducible refine c_t ?_
  | with_reducible refine c_s ?_
  | with_reducible refine x_tst ?_
  | with_reducible refine x_tru ?_
  | with_reducible refine x_truB ?_
  | with_reducible refine x_bl2 ?_
  | with_reducible refine x_int ?_
  | with_reducible refine x_str ?_
  | with_reducible refine x_not ?_
  | with_reducible refine x_and ?_
  | with_reducible refine x_or ?_
  | with_reducible refine x_andV ?_
  | with_reducible refine x_orV ?_
  | with_reducible refine x_notV ?_
  | with_reducible refine x_if ?_
  | with_reducible refine x_yes ?_
  | with_reducible refine x_un ?_
  | with_reducible refine x_tup ?_
  | with_reducible refine x_lst ?_
  | with_reducible refine x_callK ?_
  | with_reducible refine x_callK0 ?_
  | with_reducible refine x_bm ?_
  | with_reducible refine x_bm0 ?_
  | with_reducible refine x_tyS ?_
  | with_reducible refine x_sl ?_
  | with_reducible refine x_nopart ?_
  | with_reducible refine x_part ?_
  | with_reducible refine x_fmt0 ?_
  | with_reducible refine x_gc ?_
  | with_reducible refine x_gz ?_
  | with_reducible refine x_ckw ?_
  | with_reducible refine x_fmt ?_
  | with_reducible refine x_chain ?_
  | with_reducible refine a_ii ?_
  | ((with_reducible refine sl_to ?rda ?rdb ?_); (case rda => walk_at "len"); (case rdb => walk_at "len"))
  | ((with_reducible refine sl_from ?rda ?rdb ?_); (case rda => walk_at "len"); (case rdb => walk_at "len"))
  | ((with_reducible refine sl_mid ?rda ?rdb ?rdc ?_); (case rda => walk_at "len"); (case rdb => walk_at "len"); (case rdc => walk_at "len"))
  | ((with_reducible refine a_SS ?rda ?_); (case rda => walk_at "len"))
  | ((with_reducible refine ln_S ?rda ?_); (case rda => walk_at "len"))
  | with_reducible refine e_SS ?_
  | with_reducible refine ne_SS ?_
  | with_reducible refine s_ii ?_
  | ((with_reducible refine md_ii ?rdc ?_); (case rdc => first | decide | assumption | omega))
  | with_reducible refine n_i ?_
  | with_reducible refine e_ii ?_
  | with_reducible refine e_bb ?_
  | with_reducible refine ne_ii ?_
  | with_reducible refine ne_bb ?_
  | with_reducible refine lt_ii ?_
  | with_reducible refine lt_ss ?_
  | with_reducible refine le_ii ?_
  | with_reducible refine le_ss ?_
  | with_reducible refine gt_ii ?_
  | with_reducible refine gt_ss ?_
  | with_reducible refine ge_ii ?_
  | with_reducible refine e_ss ?_
  | with_reducible refine ne_ss ?_
  | with_reducible refine is_N ?_
  | with_reducible refine is_T ?_
  | with_reducible refine is_B ?_
  | with_reducible refine isn_N ?_
  | with_reducible refine isn_T ?_
  | with_reducible refine isn_B ?_
  | with_reducible refine in_s ?_
  | with_reducible refine nin_s ?_
  | with_reducible refine i_i ?_
  | with_reducible refine i_b ?_
  | with_reducible refine ab_i ?_
  | with_reducible refine mx_ii ?_
  | with_reducible refine mn_ii ?_
  | with_reducible refine ty_N ?_
  | with_reducible refine ty_B ?_
  | with_reducible refine ty_I ?_
  | with_reducible refine ty_S ?_
  | with_reducible refine ma_s ?_
  | with_reducible refine mp_s ?_
  | with_reducible refine mdg_s ?_
  | with_reducible refine mf_s ?_
  | with_reducible refine iteT ?_
  | with_reducible refine iteF ?_
  | with_reducible refine iteNt ?_
  | with_reducible refine iteNf ?_
  | with_reducible refine iteTd (by decide) ?_
  | with_reducible refine iteFd (by decide) ?_
  | with_reducible refine iteNd (by decide) ?_
  | with_reducible refine iteNdF (by decide) ?_
  | ((with_reducible refine iteFd ?rdn ?_); (case rdn => (intro rdz; cases rdz; done)))
  | ((with_reducible refine iteNdF ?rdn ?_); (case rdn => (intro rdz; cases rdz; done))))
local macro_rules | `(tactic| walk_at "rd") => `(tactic| (repeat walk_at "rd1"))
section
variable {P : Program} {w : World} {K : PySem.W.Frag} {mg : Str → Option Value} {base : Heap}
def sp__law_changes (K : PySem.W.Frag) : Sp := fun vs H Q _ => ∃ j : Addr, vs = [.ref j, .int 0, .int 5] ∧ JarAt H j ∧ ∀ p us cs H', JarAt H' j → Fr j H H' → H' p = some (.tup us) → ChV H' us cs → GoodC cs → cs.length ≤ 5 → Q (.ref p) H'
theorem ok__law_changes (Y : Fx K mg) : FnOk P w K mg base CX0 4 Y.a__law_changes Y.fd__law_changes ["_law_well_here", "_law_least", "_law_most"] (sp__law_changes K) := by
  refine Y.F__law_changes.ok sc__law_changes (fun vs H Q E h => ?_) (fun cdv A outer st H vs Q E hr h => ?_)
  · obtain ⟨j, rfl, _⟩ := h
    rfl
  · obtain ⟨j, rfl, hJ, q⟩ := h
    refine ⟨_, b__law_changes Y (ok__law_draw Y) (ok__law_text Y) hr, ?_⟩
    show t__law_changes K _ _ _ [some (.ref j), some (.int 0), some (.int 5), none, none, none, none] H
    unfold t__law_changes
    rw [show ("" : Str) = S [] from rfl, show ("a" : Str) = S [97] from rfl, show ("b " : Str) = S [98, 32] from rfl, show ("~" : Str) = S [126] from rfl]
    walk_at "rd"
    refine fun d hd => ?_
    have od := hJ.off hd
    have hJ1 := hJ.new hd (o := .dK [])
    have hF1 : Fr j H (upd H d (.dK [])) := (Frm.refl H).new hd
    have hH1 : upd H d (.dK []) d = some (.dK (([] : List Ch).map kvD)) := upd_same
    generalize upd H d (.dK []) = H1 at hJ1 hF1 hH1
    refine s_gn ?_
    show tSeq _ _ _ [some (.ref j), some (.int 0), some (.int 5), some (.ref d), none, none, none] H1
    walk_at "rd"
    refine ⟨by show 4 ≤ sizeLine; decide, fun u hu => ?_⟩
    have S1 := same_upd hu (o := .lst [V.str (S []), .str (S [97]), .str (S [98, 32]), .str (S [126])])
    have ou := hJ1.off hu
    have E1 : upd H1 u (.lst [V.str (S []), .str (S [97]), .str (S [98, 32]), .str (S [126])]) u = some (.lst [V.str (S []), .str (S [97]), .str (S [98, 32]), .str (S [126])]) := upd_same
    have hF2 := hF1.trans (Frm.of S1)
    have hJ2 := hJ1.same S1
    have hH2 := S1 _ _ hH1
    generalize upd H1 u (.lst [V.str (S []), .str (S [97]), .str (S [98, 32]), .str (S [126])]) = H2 at E1 hF2 hJ2 hH2 ⊢
    walk_at "rd"
    refine ⟨j, 4, rfl, hJ2, by decide, by decide, fun r H3 r0 r1 hJ3 hF3 => ?_⟩
    obtain ⟨n, rfl, hn⟩ : ∃ n : Nat, r = n ∧ n < 4 := ⟨r.toNat, by omega, by omega⟩
    obtain ⟨fr, ef, fT, fL⟩ : ∃ fr : List Nat, [V.str (S []), .str (S [97]), .str (S [98, 32]), .str (S [126])][n]? = some (.str (S fr)) ∧ isT fr = true ∧ fr.length ≤ 2 := by
      match n, hn with
      | 0, _ => exact ⟨[], rfl, rfl, by decide⟩
      | 1, _ => exact ⟨[97], rfl, by decide, by decide⟩
      | 2, _ => exact ⟨[98, 32], rfl, by decide, by decide⟩
      | 3, _ => exact ⟨[126], rfl, by decide, by decide⟩
      | n + 4, h => omega
    refine ix_L (lst_of (hF3 _ _ ou ou E1)) (atI_nat ef) ?_
    have hH3 := hF3 d _ od od hH2
    have hF03 := hF2.trans hF3
    clear E1 ef S1
    walk_at "rd"
    refine ⟨j, 5 - 0 + 1, rfl, hJ3, by decide, by decide, fun m H4 m0 m1 hJ4 hF4 => ?_⟩
    walk_at "rd"
    refine for1_mk (by omega) (by omega) (fun i σ H' => ∃ (cs : List Ch) (y5 y6 : Option V), σ = [some (.ref j), some (.int 0), some (.int 5), some (.ref d), some (.str (S fr)), y5, y6] ∧ JarAt H' j ∧ Fr j H H' ∧ H' d = some (.dK (cs.map kvD)) ∧ RwOk cs ∧ cs.length ≤ i)
      ⟨[], _, _, rfl, hJ4, hF03.trans hF4, hF4 d _ od od hH3, RwOk.nil, Nat.zero_le _⟩ (fun i σ H5 hi hV => ?_) (fun σ H5 hV => ?_)
    · obtain ⟨cs, y5, y6, rfl, hJ5, hF5, hd5, hok, hci⟩ := hV
      walk_at "rd"
      refine ⟨by show 2 ≤ sizeLine; decide, fun v hv => ?_⟩
      have S2 := same_upd hv (o := .lst [V.str (S fr), .str (S [])])
      have ov := hJ5.off hv
      have E2 : upd H5 v (.lst [V.str (S fr), .str (S [])]) v = some (.lst [V.str (S fr), .str (S [])]) := upd_same
      have hJ6 := hJ5.same S2
      have hF6 := hF5.trans (Frm.of S2)
      have hd6 := S2 _ _ hd5
      generalize upd H5 v (.lst [V.str (S fr), .str (S [])]) = H6 at E2 hJ6 hF6 hd6 ⊢
      walk_at "rd"
      refine ⟨j, 2, rfl, hJ6, by decide, by decide, fun r H7 r0 r1 hJ7 hF7 => ?_⟩
      obtain ⟨n2, rfl, hn2⟩ : ∃ n : Nat, r = n ∧ n < 2 := ⟨r.toNat, by omega, by omega⟩
      obtain ⟨f2, ef2, f2T, f2L⟩ : ∃ f2 : List Nat, [V.str (S fr), .str (S [])][n2]? = some (.str (S f2)) ∧ isT f2 = true ∧ f2.length ≤ 2 := by
        match n2, hn2 with
        | 0, _ => exact ⟨fr, rfl, fT, fL⟩
        | 1, _ => exact ⟨[], rfl, rfl, by decide⟩
        | n + 2, h => omega
      refine ix_L (lst_of (hF7 _ _ ov ov E2)) (atI_nat ef2) ?_
      have hd7 := hF7 d _ od od hd6
      have hF07 := hF6.trans hF7
      clear E2 ef2 S2 hv
      walk_at "rd"
      refine ⟨j, 4, rfl, by decide, hJ7, fun k4 H8 k1 k2 hJ8 hF8 => ?_⟩
      have hd8 := hF8 d _ od od hd7
      have hF08 := hF07.trans hF8
      have kT : isT (f2 ++ k4) = true := by rw [isT_app, f2T, k2]; rfl
      have kL : (f2 ++ k4).length ≤ 6 := by rw [List.length_append]; omega
      walk_at "rd"
      refine s_cut (fun σ' H' => ∃ key : List Nat, σ' = [some (.ref j), some (.int 0), some (.int 5), some (.ref d), some (.str (S fr)), some (.int i), some (.str (S key))] ∧ H' = H8 ∧ isT key = true ∧ key.length ≤ 10) ?_ ?_
      · walk_at "rd"
        exact ⟨f2 ++ k4, rfl, rfl, kT, by omega⟩
      · rintro σ' H' ⟨key, rfl, rfl, keyT, keyL⟩
        walk_at "rd"
        refine ⟨j, 6, rfl, by decide, hJ8, fun v6 H9 v1 v2 hJ9 hF9 => ?_⟩
        have hd9 := hF9 d _ od od hd8
        have hF09 := hF08.trans hF9
        walk_at "rd"
        refine ⟨by show 3 ≤ sizeLine; decide, fun x hx => ?_⟩
        have S3 := same_upd hx (o := .lst [V.non, .str (S v6), .str (S [])])
        have ox := hJ9.off hx
        have E3 : upd H9 x (.lst [V.non, .str (S v6), .str (S [])]) x = some (.lst [V.non, .str (S v6), .str (S [])]) := upd_same
        have hJ10 := hJ9.same S3
        have hF10 := hF09.trans (Frm.of S3)
        have hd10 := S3 _ _ hd9
        generalize upd H9 x (.lst [V.non, .str (S v6), .str (S [])]) = H10 at E3 hJ10 hF10 hd10 ⊢
        walk_at "rd"
        refine ⟨j, 3, rfl, hJ10, by decide, by decide, fun r H11 r0 r1 hJ11 hF11 => ?_⟩
        obtain ⟨n3, rfl, hn3⟩ : ∃ n : Nat, r = n ∧ n < 3 := ⟨r.toNat, by omega, by omega⟩
        obtain ⟨vv, ev, tv'⟩ : ∃ vv : Option (List Nat), [V.non, .str (S v6), .str (S [])][n3]? = some (vlV vv) ∧ ∀ z, vv = some z → isT z = true ∧ z.length ≤ 9999 := by
          match n3, hn3 with
          | 0, _ => exact ⟨none, rfl, fun z e => by cases e⟩
          | 1, _ => exact ⟨some v6, rfl, fun z e => by cases e; exact ⟨v2, by omega⟩⟩
          | 2, _ => exact ⟨some [], rfl, fun z e => by cases e; exact ⟨rfl, by decide⟩⟩
          | n + 3, h => omega
        refine ix_L (lst_of (hF11 _ _ ox ox E3)) (atI_nat ev) ?_
        have hd11 := hF11 d _ od od hd10
        have hF011 := hF10.trans hF11
        have hT : TxC (key, vv) := ⟨⟨keyT, Nat.le_trans keyL (by decide)⟩, tv'⟩
        walk_at "rd"
        refine ⟨d, _, rfl, .inl ⟨_, Sum.inr (S key), hd11, rfl, Nat.lt_of_le_of_lt (show _ ≤ 100 by rw [List.length_map]; omega) (by decide), rfl⟩, putL cs key vv, _, _, rfl, hJ11.keep od, Fr.cut hF011 (Frm.refl H) hd, ?_, putL_ok hok hT, Nat.le_trans (putL_len cs key vv) (by omega)⟩
        rw [upd_same, put_L]
    · obtain ⟨cs, y5, y6, rfl, hJ3, hF3, hd3, hok, hci⟩ := hV
      have hcn : cs.length ≤ 5 := by omega
      walk_at "rd"
      refine ⟨d, _, cs.map fun c => S c.1, rfl, .inl hd3, by rw [List.map_map, List.map_map]; rfl, by rw [List.length_map]; omega, fun ys p hys hsr hp => ?_⟩
      have hSp := same_upd hp (o := .lst (ys.map V.str))
      obtain ⟨ks, rfl⟩ : ∃ ks : List (List Nat), ys = ks.map S := ⟨ys.map fun z => z.cps.toList, by
        rw [List.map_map]
        conv => lhs; rw [← List.map_id ys]
        exact List.map_congr_left fun z _ => S_eta z⟩
      have hpk : ks.Perm (cs.map (·.1)) := by
        have h2 := hys.map (fun z : Str => z.cps.toList)
        rw [List.map_map, List.map_map] at h2
        have e1 : ((fun z : Str => z.cps.toList) ∘ S) = id := rfl
        rw [e1, List.map_id] at h2
        exact h2
      have hkl : ks.length = cs.length := by
        have := hpk.length_eq
        rw [List.length_map] at this
        exact this
      refine lcL_mk (lst_of (upd_same (H := H5) (a := p))) (fun D i H' => Same (upd H5 p (.lst ((ks.map S).map V.str))) H' ∧ ∃ us, H' D = some (.lst us) ∧ ChV H' us ((ks.take i).map fun k => (k, valL cs k)) ∧ i ≤ ks.length) (fun D hD => ⟨same_upd hD, [], upd_same, ChV.nil, Nat.zero_le _⟩) (fun D i H' hD hi hP => lst_of (hP.1 _ _ upd_same)) (fun D i x H' hD hx hP => ?_) (fun D H' hD hP => ?_)
      · obtain ⟨hS, us, hDu, hV, hil⟩ := hP
        rw [List.map_map, List.getElem?_map] at hx
        cases hki : ks[i]? with
        | none => rw [hki] at hx; cases hx
        | some k =>
          rw [hki] at hx
          cases hx
          have hkm : k ∈ cs.map (·.1) := hpk.mem_iff.mp (List.mem_of_getElem? hki)
          obtain ⟨hval, _⟩ := val_L hok hkm
          have hdd := hS _ _ (hSp _ _ hd3)
          refine ⟨rfl, ?_⟩
          walk_at "rd"
          refine ⟨d, vlV (valL cs k), rfl, .inl ⟨_, Sum.inr (S k), .inl hdd, rfl, hval.symm⟩, ?_⟩
          walk_at "rd"
          refine ⟨by show 2 ≤ sizeLine; decide, fun t ht => ?_⟩
          have hSt := same_upd ht (o := .tup [V.str (S k), vlV (valL cs k)])
          have oDt : D ≠ t := by
            rintro rfl
            rw [hDu] at ht
            cases ht
          have hus := hV.1
          rw [List.length_map, List.length_take] at hus
          refine ⟨us, hSt _ _ hDu, Nat.lt_of_le_of_lt (show _ ≤ 100 by omega) (by decide), same_mut (hS.trans hSt) hD, us ++ [.ref t], by rw [upd_same], ?_, ?_⟩
          · rw [take_snoc hki, List.map_append]
            exact ((hV.mono hSt).mut (hSt _ _ hDu)).snoc (by rw [upd_ne (Ne.symm oDt)]; exact upd_same)
          · have := (List.getElem?_eq_some_iff.mp hki).1
            omega
      · obtain ⟨hS, us, hDu, hV, _⟩ := hP
        rw [List.length_map, List.length_map, List.take_of_length_le (Nat.le_refl _)] at hV
        walk_at "rd"
        refine tu_L (lst_of hDu) fun l hl => ?_
        have hSl := same_upd hl (o := .tup us)
        have hSS := (hSp.trans hS).trans hSl
        refine q l us _ _ (hJ3.same hSS) ?_ upd_same (hV.mono hSl) (good_rows hok hpk hsr) (by rw [List.length_map]; omega)
        exact fun a o h1 h2 h3 => hSS _ _ (hF3 a o h1 h2 h3)
end
end My

set_option Elab.async false
set_option linter.all false
set_option maxRecDepth 100000
set_option maxHeartbeats 1000000
namespace My
open PySem PySem.Spec PyProof.Rows L2
local macro_rules | `(tactic| walk_at "len") => `(tactic| first | assumption | omega | decide | (simp only [List.length_append, List.length_take, List.length_drop, List.length_cons, List.length_nil, List.length_replicate]; omega))
local macro_rules | `(tactic| walk_at "side") => `(tactic| first | assumption | exact Nat.zero_le _ | decide | omega)
local macro_rules | `(tactic| walk_at "rd1") => `(tactic| first
  | with_reducible refine s_seq ?_
  | with_reducible refine x_gsub ?_
  | with_reducible refine s_asg ?_
  | ((with_reducible refine s_gn ?_); dsimp only [List.set])
  | ((with_reducible refine x_var (v := ?rdv) ?rdhv ?_); (case rdhv => rfl))
  | with_reducible refine x_c ?_
  | with_reducible refine x_op ?_
  | with_reducible refine x_cons ?_
  | with_reducible refine x_nil ?_
  | with_reducible refine x_cb ?_
  | with_reducible refine x_call ?_
  | with_reducible refine x_callS ?_
  | with_reducible refine x_revT ?_
  | with_reducible refine x_dget ?_
  | with_reducible refine x_din ?_
  | with_reducible refine x_dnotin ?_
  | with_reducible refine s_dput ?_
  | with_reducible refine x_dnew ?_
  | with_reducible refine s_try ?_
  | with_reducible refine s_raise ?_
  | with_reducible refine s_if ?_
  | with_reducible refine s_ret ?_
  | with_reducible refine s_retN ?_
  | with_reducible refine s_next ?_
  | with_reducible refine s_brk ?_
  | with_reducible refine s_cont ?_
  | with_reducible refine s_drop ?_
  | with_reducible refine s_par ?_
  | with_reducible refine s_par3 ?_
  | ((with_reducible refine s_p2 ?_); dsimp only [List.set])
  | ((with_reducible refine s_p3 ?_); dsimp only [List.set])
  | with_reducible refine f_r1 ?_
  | with_reducible refine f_r2 ?_
  | with_reducible refine f_l ?_
  | with_reducible refine f_t ?_
  | with_reducible refine f_s ?_
  | with_reducible refine c_r1 ?_
  | with_reducible refine c_r2 ?_
  | with_reducible refine c_l ?_
  | with_reducible refine c_t ?_
  | with_reducible refine c_s ?_
  | with_reducible refine x_tst ?_
  | with_reducible refine x_tru ?_
  | with_reducible refine x_truB ?_
  | with_reducible refine x_bl2 ?_
  | with_reducible refine x_int ?_
  | with_reducible refine x_str ?_
  | with_reducible refine x_not ?_
  | with_reducible refine x_and ?_
  | with_reducible refine x_or ?_
  | with_reducible refine x_andV ?_
  | with_reducible refine x_orV ?_
  | with_reducible refine x_notV ?_
  | with_reducible refine x_if ?_
  | with_reducible refine x_yes ?_
  | with_reducible refine x_un ?_
  | with_reducible refine x_tup ?_
  | with_reducible refine x_lst ?_
  | with_reducible refine x_callK ?_
  | with_reducible refine x_callK0 ?_
  | with_reducible refine x_bm ?_
  | with_reducible refine x_bm0 ?_
  | with_reducible refine x_tyS ?_
  | with_reducible refine x_sl ?_
  | with_reducible refine x_nopart ?_
  | with_reducible refine x_part ?_
  | with_reducible refine x_fmt0 ?_
  | with_reducible refine x_gc ?_
  | with_reducible refine x_gz ?_
  | with_reducible refine x_ckw ?_
  | with_reducible refine x_fmt ?_
  | with_reducible refine x_chain ?_
  | with_reducible refine a_ii ?_
  | ((with_reducible refine sl_to ?rda ?rdb ?_); (case rda => walk_at "len"); (case rdb => walk_at "len"))
  | ((with_reducible refine sl_from ?rda ?rdb ?_); (case rda => walk_at "len"); (case rdb => walk_at "len"))
  | ((with_reducible refine sl_mid ?rda ?rdb ?rdc ?_); (case rda => walk_at "len"); (case rdb => walk_at "len"); (case rdc => walk_at "len"))
  | ((with_reducible refine a_SS ?rda ?_); (case rda => walk_at "len"))
  | ((with_reducible refine ln_S ?rda ?_); (case rda => walk_at "len"))
  | with_reducible refine e_SS ?_
  | with_reducible refine ne_SS ?_
  | with_reducible refine s_ii ?_
  | ((with_reducible refine md_ii ?rdc ?_); (case rdc => first | decide | assumption | omega))
  | with_reducible refine n_i ?_
  | with_reducible refine e_ii ?_
  | with_reducible refine e_bb ?_
  | with_reducible refine ne_ii ?_
  | with_reducible refine ne_bb ?_
  | with_reducible refine lt_ii ?_
  | with_reducible refine lt_ss ?_
  | with_reducible refine le_ii ?_
  | with_reducible refine le_ss ?_
  | with_reducible refine gt_ii ?_
  | with_reducible refine gt_ss ?_
  | with_reducible refine ge_ii ?_
  | with_reducible refine e_ss ?_
  | with_reducible refine ne_ss ?_
  | with_reducible refine is_N ?_
  | with_reducible refine is_T ?_
  | with_reducible refine is_B ?_
  | with_reducible refine isn_N ?_
  | with_reducible refine isn_T ?_
  | with_reducible refine isn_B ?_
  | with_reducible refine in_s ?_
  | with_reducible refine nin_s ?_
  | with_reducible refine i_i ?_
  | with_reducible refine i_b ?_
  | with_reducible refine ab_i ?_
  | with_reducible refine mx_ii ?_
  | with_reducible refine mn_ii ?_
  | with_reducible refine ty_N ?_
  | with_reducible refine ty_B ?_
  | with_reducible refine ty_I ?_
  | with_reducible refine ty_S ?_
  | with_reducible refine ma_s ?_
  | with_reducible refine mp_s ?_
  | with_reducible refine mdg_s ?_
  | with_reducible refine mf_s ?_
  | with_reducible refine iteT ?_
  | with_reducible refine iteF ?_
  | with_reducible refine iteNt ?_
  | with_reducible refine iteNf ?_
  | with_reducible refine iteTd (by decide) ?_
  | with_reducible refine iteFd (by decide) ?_
  | with_reducible refine iteNd (by decide) ?_
  | with_reducible refine iteNdF (by decide) ?_
  | ((with_reducible refine iteFd ?rdn ?_); (case rdn => (intro rdz; cases rdz; done)))
  | ((with_reducible refine iteNdF ?rdn ?_); (case rdn => (intro rdz; cases rdz; done))))
local macro_rules | `(tactic| walk_at "rd") => `(tactic| (repeat walk_at "rd1"))
section
variable {P : Program} {w : World} {K : PySem.W.Frag} {mg : Str → Option Value} {base : Heap}
theorem isT_repl {c : Nat} (h : isT [c] = true) : ∀ n : Nat, isT (List.replicate n [c]).flatten = true
  | 0 => rfl
  | n + 1 => by
    rw [List.replicate_succ, List.flatten_cons, isT_app, h, isT_repl h n]
    rfl
theorem len_repl (c : Nat) : ∀ n : Nat, (List.replicate n [c]).flatten.length = n
  | 0 => rfl
  | n + 1 => by
    rw [List.replicate_succ, List.flatten_cons, List.length_append, len_repl c n, List.length_singleton]
    omega
/-- a sign many times over -/
theorem x_rep {c n : Nat} {H : Hp} {Q : VK} (hn : n ≤ 300000) (h : isT [c] = true) (q : ∀ l : List Nat, isT l = true → l.length = n → Q (.str (S l)) H) : rMUL K (.str (S [c])) (.int n) H Q := by
  refine m_SI (by omega) (by omega) (by rw [Int.toNat_natCast, List.length_singleton]; omega) ?_
  rw [Int.toNat_natCast]
  exact q _ (isT_repl h n) (len_repl c n)
theorem good_one {A : List Nat} {o : Option (List Nat)} (h : TxC (A, o)) : GoodC [(A, o)] := good_of rfl fun c hc => by
  rw [List.mem_singleton.mp hc]
  exact h
theorem lnC_of {c : Ch} (h : TxC c) : LnC c := ⟨h.1.2, fun v e => (h.2 v e).2⟩
theorem linesB_of {cs : List Ch} (h : ∀ c ∈ cs, TxC c) : linesB cs = true := lines_ln fun c hc => lnC_of (h c hc)
theorem GoodC.lines {cs : List Ch} (h : GoodC cs) : linesB cs = true := linesB_of h.2
def entC (c : Ch) : Ch := (c.1, some (c.2.getD []))
theorem entC_keys (cs : List Ch) : (cs.map entC).map (·.1) = cs.map (·.1) := by
  rw [List.map_map]
  rfl
theorem entC_ok {c : Ch} (h : TxC c) : TxC (entC c) := by
  refine ⟨h.1, fun v e => ?_⟩
  obtain ⟨k, o⟩ := c
  cases o with
  | none => cases e; exact ⟨rfl, by show 0 ≤ 9999; omega⟩
  | some x => cases e; exact h.2 x rfl
theorem good_ent {cs : List Ch} (h : GoodC cs) : GoodC (cs.map entC) := by
  refine good_of ?_ fun c hc => ?_
  · rw [entC_keys]
    have := h.1
    rw [isChs_eq, Bool.and_eq_true] at this
    exact this.2
  · obtain ⟨d, hd, rfl⟩ := List.mem_map.mp hc
    exact entC_ok (h.2 d hd)
theorem some_ent (cs : List Ch) : someB (cs.map entC) = true := List.all_eq_true.mpr fun c hc => by
  obtain ⟨d, _, rfl⟩ := List.mem_map.mp hc
  rfl
/-- a letter that is drawn -/
def LtG (L : Lt) : Prop := LtOk L ∧ (∀ c ∈ rowsN L, TxC c) ∧ (rowsN L).length ≤ 5
theorem ChV.fr {j : Addr} {H H' : Hp} {us : List V} {cs : List Ch} (hJ : JarAt H j) (e : Fr j H H') (h : ChV H us cs) : ChV H' us cs := ⟨h.1, fun i o hi => by
  obtain ⟨v, a, b⟩ := h.2 i o hi
  have ne : v ≠ j := by
    rintro rfl
    obtain ⟨x, y, t, hj, _⟩ := hJ
    rw [hj] at b
    cases b
  exact ⟨v, a, e _ _ ne ne b⟩⟩
theorem tup_off {j p : Addr} {H : Hp} {us : List V} (hJ : JarAt H j) (h : H p = some (.tup us)) : p ≠ j := by
  rintro rfl
  obtain ⟨x, y, t, hj, _⟩ := hJ
  rw [hj] at h
  cases h
def sp__law_letter (K : PySem.W.Frag) : Sp := fun vs H Q _ => ∃ j : Addr, vs = [.ref j] ∧ JarAt H j ∧ ∀ v L H', JarAt H' j → Fr j H H' → Dp K H' v (letD L) → LtG L → Q v H'
theorem ok__law_letter (Y : Fx K mg) : FnOk P w K mg base CX0 5 Y.a__law_letter Y.fd__law_letter ["_law_well_here"] (sp__law_letter K) := by
  refine Y.F__law_letter.ok sc__law_letter (fun vs H Q E h => ?_) (fun cdv A outer st H vs Q E hr h => ?_)
  · obtain ⟨j, rfl, _⟩ := h
    rfl
  · obtain ⟨j, rfl, hJ, q⟩ := h
    refine ⟨_, b__law_letter Y (ok__law_changes Y) (ok__law_draw Y) hr, ?_⟩
    show t__law_letter K _ _ _ [some (.ref j), none, none, none, none, none, none, none, none] H
    unfold t__law_letter
    rw [show ("" : Str) = S [] from rfl, show ("a" : Str) = S [97] from rfl, show ("x" : Str) = S [120] from rfl, show ("none" : Str) = S noneL from rfl, show ("part" : Str) = S partL from rfl, show ("piece" : Str) = S pieceL from rfl]
    walk_at "rd"
    refine ⟨j, 99999999, rfl, hJ, by decide, by decide, fun r1 H1 a0 a1 hJ1 hF1 => ?_⟩
    walk_at "rd"
    refine ⟨j, 20, rfl, hJ1, by decide, by decide, fun r2 H2 b0 b1 hJ2 hF2 => ?_⟩
    walk_at "rd"
    refine ⟨by show 4 ≤ sizeLine; decide, fun u hu => ?_⟩
    have S1 := same_upd hu (o := .lst [V.int 1, .int 99999999, .int (1 + r1), .int (1 + r2)])
    have ou := hJ2.off hu
    have E1 : upd H2 u (.lst [V.int 1, .int 99999999, .int (1 + r1), .int (1 + r2)]) u = some (.lst [V.int 1, .int 99999999, .int (1 + r1), .int (1 + r2)]) := upd_same
    have hJ3 := hJ2.same S1
    have hF3 := (hF1.trans hF2).trans (Frm.of S1)
    generalize upd H2 u (.lst [V.int 1, .int 99999999, .int (1 + r1), .int (1 + r2)]) = H3 at E1 hJ3 hF3 ⊢
    walk_at "rd"
    refine ⟨j, 4, rfl, hJ3, by decide, by decide, fun r3 H4 c0 c1 hJ4 hF4 => ?_⟩
    refine ix_rng (lo := 1) (hi := 99999999) (lst_of (hF4 _ _ ou ou E1)) (rng_cons (by omega) (by omega) (rng_cons (by omega) (by omega) (rng_cons (by omega) (by omega) (rng_cons (by omega) (by omega) rng_nil)))) c0 c1 fun z z0 z1 => ?_
    obtain ⟨n, rfl⟩ : ∃ n : Nat, z = n := ⟨z.toNat, by omega⟩
    have hF04 := hF3.trans hF4
    clear E1 S1 hu ou hF1 hF2 hF3 hF4 hJ1 hJ2 hJ3 a0 a1 b0 b1 c0 c1
    walk_at "rd"
    refine ⟨j, rfl, hJ4, fun p us cs H5 hJ5 hF5 hp hV hG hl => ?_⟩
    have hF05 := hF04.trans hF5
    clear hF04 hF5 hJ4
    walk_at "rd"
    refine ⟨j, 12, rfl, hJ5, by decide, by decide, fun r4 H6 d0 d1 hJ6 hF6 => ?_⟩
    have hp6 := hF6 _ _ (tup_off hJ5 hp) (tup_off hJ5 hp) hp
    have hV6 := hV.fr hJ5 hF6
    have hF06 := hF05.trans hF6
    clear hF05 hF6 hp hV
    walk_at "rd"
    have main : ∀ (H7 : Hp) (p : Addr) (us : List V) (cs : List Ch), JarAt H7 j → Fr j H H7 → H7 p = some (.tup us) → ChV H7 us cs → GoodC cs → cs.length ≤ 5 →
      (tSeq (tAsg (tCall (sp__law_draw K) [] E0 (tCons (tVar 0) (tCons (tC (.int 5)) tNil))) (gName 3))
    (tSeq (tIfS (tTest (tOp (rEQ K) (tVar 3) (tC (.int 0)))) (tRet (tTup (tCons (tC (.str (S noneL))) tNil))) tNext)
    (tSeq (tIfS (tTest (tOp rLT (tVar 3) (tC (.int 3)))) (tRet (tTup (tCons (tC (.str (S partL))) (tCons (tVar 1) (tCons (tVar 2) tNil))))) tNext)
    (tSeq (tAsg (tOp (rIX K) (tLst (tCons (tC (.int 1)) (tCons (tC (.int 9999)) (tCons (tOp (rADD K) (tC (.int 1)) (tCall (sp__law_draw K) [] E0 (tCons (tVar 0) (tCons (tC (.int 9999)) tNil)))) (tCons (tOp (rADD K) (tC (.int 1)) (tCall (sp__law_draw K) [] E0 (tCons (tVar 0) (tCons (tC (.int 5)) tNil)))) tNil))))) (tCall (sp__law_draw K) [] E0 (tCons (tVar 0) (tCons (tC (.int 4)) tNil)))) (gName 4))
    (tSeq (tAsg (tOp (rIX K) (tLst (tCons (tC (.int 0)) (tCons (tOp rSUB (tVar 4) (tC (.int 1))) (tCons (tCall (sp__law_draw K) [] E0 (tCons (tVar 0) (tCons (tVar 4) tNil))) tNil)))) (tCall (sp__law_draw K) [] E0 (tCons (tVar 0) (tCons (tC (.int 3)) tNil)))) (gName 5))
    (tSeq (tAsg (tCB (rTUPLE K) (tCons (tLc (iTup K (tVar 2)) (gTup K 2 (gCons (gName 7) (gCons (gName 8) gNil))) tYes (tTup (tCons (tVar 7) (tCons (tIf (tTest (tOp (rIS K) (tVar 8) (tC .non))) (tC (.str (S []))) (tVar 8)) tNil))) [7, 8]) tNil)) (gName 6))
    (tRet (tTup (tCons (tC (.str (S pieceL))) (tCons (tOp rSUB (tVar 1) (tCall (sp__law_draw K) [] E0 (tCons (tVar 0) (tCons (tC (.int 2)) tNil)))) (tCons (tVar 5) (tCons (tVar 4) (tCons (tVar 6) tNil))))))))))))) { nx := fun σ' H' => Q .non H', rt := Q } [some (.ref j), some (.int n), some (.ref p), none, none, none, none, none, none] H7 := by
      clear hp6 hV6 hF06 hJ6 hG hl hJ5
      intro H7 p us cs hJ hF hp hV hG hl
      walk_at "rd"
      refine ⟨j, 5, rfl, hJ, by decide, by decide, fun r1 H1 a0 a1 hJ1 hF1 => ?_⟩
      have hp1 := hF1 _ _ (tup_off hJ hp) (tup_off hJ hp) hp
      have hV1 := hV.fr hJ hF1
      have hF01 := hF.trans hF1
      clear hp hV hF hF1 hJ
      walk_at "rd"
      refine ite2' (fun e => ?_) (fun e => ?_)
      · walk_at "rd"
        refine ⟨by show 1 ≤ sizeLine; decide, fun t ht => ?_⟩
        exact q _ .non _ (hJ1.new ht) (hF01.new ht) (.tup (tup_of upd_same) (.cons (.str _) .nil)) ⟨True.intro, (fun _ h => by cases h), by decide⟩
      · walk_at "rd"
        refine ite2' (fun e2 => ?_) (fun e2 => ?_)
        · walk_at "rd"
          refine ⟨by show 3 ≤ sizeLine; decide, fun t ht => ?_⟩
          exact q _ (.part n cs) _ (hJ1.new ht) (hF01.new ht) (.tup (tup_of upd_same) (.cons (.str _) (.cons (.int _) (.cons (.tup (tup_of (same_upd ht _ _ hp1)) (hV1.mono (same_upd ht)).dp) .nil)))) ⟨⟨by omega, by omega, hG.1, hG.lines⟩, hG.2, hl⟩
        · walk_at "rd"
          refine ⟨j, 9999, rfl, hJ1, by decide, by decide, fun r2 H2 b0 b1 hJ2 hF2 => ?_⟩
          walk_at "rd"
          refine ⟨j, 5, rfl, hJ2, by decide, by decide, fun r3 H3 c0 c1 hJ3 hF3 => ?_⟩
          walk_at "rd"
          refine ⟨by show 4 ≤ sizeLine; decide, fun u hu => ?_⟩
          have S1 := same_upd hu (o := .lst [V.int 1, .int 9999, .int (1 + r2), .int (1 + r3)])
          have ou := hJ3.off hu
          have E1 : upd H3 u (.lst [V.int 1, .int 9999, .int (1 + r2), .int (1 + r3)]) u = some (.lst [V.int 1, .int 9999, .int (1 + r2), .int (1 + r3)]) := upd_same
          have hJ4 := hJ3.same S1
          have hF4 := (hF2.trans hF3).trans (Frm.of S1)
          generalize upd H3 u (.lst [V.int 1, .int 9999, .int (1 + r2), .int (1 + r3)]) = H4 at E1 hJ4 hF4 ⊢
          walk_at "rd"
          refine ⟨j, 4, rfl, hJ4, by decide, by decide, fun r4 H5 d0 d1 hJ5 hF5 => ?_⟩
          refine ix_rng (lo := 1) (hi := 9999) (lst_of (hF5 _ _ ou ou E1)) (rng_cons (by omega) (by omega) (rng_cons (by omega) (by omega) (rng_cons (by omega) (by omega) (rng_cons (by omega) (by omega) rng_nil)))) d0 d1 fun z z0 z1 => ?_
          obtain ⟨m, rfl⟩ : ∃ m : Nat, z = m := ⟨z.toNat, by omega⟩
          have hF15 := hF4.trans hF5
          have hp5 := hF15 _ _ (tup_off hJ1 hp1) (tup_off hJ1 hp1) hp1
          have hV5 := hV1.fr hJ1 hF15
          have hF05 := hF01.trans hF15
          clear E1 S1 hu ou hF2 hF3 hF4 hF5 hJ2 hJ3 hJ4 b0 b1 c0 c1 d0 d1 hF15 hF01 hp1 hV1 hJ1
          walk_at "rd"
          refine ⟨j, m, rfl, hJ5, by omega, by omega, fun r5 H6 b0 b1 hJ6 hF6 => ?_⟩
          walk_at "rd"
          refine ⟨by show 3 ≤ sizeLine; decide, fun u hu => ?_⟩
          have S1 := same_upd hu (o := .lst [V.int 0, .int ((m : Int) - 1), .int r5])
          have ou := hJ6.off hu
          have E1 : upd H6 u (.lst [V.int 0, .int ((m : Int) - 1), .int r5]) u = some (.lst [V.int 0, .int ((m : Int) - 1), .int r5]) := upd_same
          have hJ7 := hJ6.same S1
          have hF7 := hF6.trans (Frm.of S1)
          generalize upd H6 u (.lst [V.int 0, .int ((m : Int) - 1), .int r5]) = H7 at E1 hJ7 hF7 ⊢
          walk_at "rd"
          refine ⟨j, 3, rfl, hJ7, by decide, by decide, fun r6 H8 c0 c1 hJ8 hF8 => ?_⟩
          refine ix_rng (lo := 0) (hi := (m : Int) - 1) (lst_of (hF8 _ _ ou ou E1)) (rng_cons (by omega) (by omega) (rng_cons (by omega) (by omega) (rng_cons (by omega) (by omega) rng_nil))) c0 c1 fun z y0 y1 => ?_
          obtain ⟨i, rfl⟩ : ∃ i : Nat, z = i := ⟨z.toNat, by omega⟩
          have hF18 := hF7.trans hF8
          have hp8 := hF18 _ _ (tup_off hJ5 hp5) (tup_off hJ5 hp5) hp5
          have hV8 := hV5.fr hJ5 hF18
          have hF08 := hF05.trans hF18
          clear E1 S1 hu ou hF6 hF7 hF8 hJ6 hJ7 b0 b1 c0 c1 hF18 hF05 hp5 hV5 hJ5
          walk_at "rd"
          have hul := hV8.1
          refine lcT_mk (tup_of hp8) (fun D k G => Same H8 G ∧ ∃ xs, G D = some (.lst xs) ∧ ChV G xs ((cs.take k).map entC)) (fun D hD => ⟨same_upd hD, [], upd_same, ChV.nil⟩) (fun D k G hD _ hP => same_sqt hP.1 (tup_of hp8)) (fun D k x G hD hxi hP => ?_) (fun D G hD hP => ?_)
          · obtain ⟨hS, xs, hH, hX⟩ := hP
            have hm : k < cs.length := by rw [← hul]; exact (List.getElem?_eq_some_iff.mp hxi).1
            obtain ⟨tc, ht, hdt⟩ := hV8.2 k _ (List.getElem?_eq_getElem hm)
            rw [hxi] at ht
            cases ht
            have hc := List.getElem?_eq_getElem hm
            generalize cs[k] = c at hdt hc
            refine gt_T (tup_of (hS _ _ hdt)) rfl ?_
            refine x_gc ?_
            refine s_gn ?_
            refine x_gc ?_
            refine s_gn ?_
            refine x_gz ?_
            refine ⟨rfl, ?_⟩
            have hxl := hX.1
            rw [List.length_map, List.length_take] at hxl
            have fin : ∀ t, G t = none → ∃ acc, upd G t (.tup [V.str (S c.1), .str (S (c.2.getD []))]) D = some (.lst acc) ∧ acc.length < sizeLine ∧ Same H8 (upd (upd G t (.tup [V.str (S c.1), .str (S (c.2.getD []))])) D (.lst (acc ++ [.ref t]))) ∧ ∃ xs, upd (upd G t (.tup [V.str (S c.1), .str (S (c.2.getD []))])) D (.lst (acc ++ [.ref t])) D = some (.lst xs) ∧ ChV (upd (upd G t (.tup [V.str (S c.1), .str (S (c.2.getD []))])) D (.lst (acc ++ [.ref t]))) xs ((cs.take (k + 1)).map entC) := by
              intro t ht
              have hSt := same_upd ht (o := .tup [V.str (S c.1), .str (S (c.2.getD []))])
              have oDt : D ≠ t := by
                rintro rfl
                rw [hH] at ht
                cases ht
              refine ⟨xs, hSt _ _ hH, Nat.lt_of_le_of_lt (show _ ≤ 100 by omega) (by decide), same_mut (hS.trans hSt) hD, xs ++ [.ref t], upd_same, ?_⟩
              rw [take_snoc hc, List.map_append]
              exact ((hX.mono hSt).mut (hSt _ _ hH)).snoc (by rw [upd_ne (Ne.symm oDt)]; exact upd_same)
            obtain ⟨k2, o⟩ := c
            cases o with
            | none =>
              show tYes [some (.ref j), some (.int n), some (.ref p), some (.int r1), some (.int m), some (.int i), none, some (.str (S k2)), some .non] G _
              walk_at "rd"
              exact ⟨by show 2 ≤ sizeLine; decide, fun t ht => fin t ht⟩
            | some y =>
              show tYes [some (.ref j), some (.int n), some (.ref p), some (.int r1), some (.int m), some (.int i), none, some (.str (S k2)), some (.str (S y))] G _
              walk_at "rd"
              exact ⟨by show 2 ≤ sizeLine; decide, fun t ht => fin t ht⟩
          · obtain ⟨hS, xs, hH, hX⟩ := hP
            rw [hul, List.take_of_length_le (Nat.le_refl _)] at hX
            walk_at "rd"
            refine tu_L (lst_of hH) fun p2 hp2 => ?_
            have S2 := same_upd hp2 (o := .tup xs)
            have hJ9 := (hJ8.same hS).same S2
            have hF9 := (hF08.trans (Frm.of hS)).trans (Frm.of S2)
            have hX9 := hX.mono S2
            have hP9 : upd G p2 (.tup xs) p2 = some (.tup xs) := upd_same
            generalize upd G p2 (.tup xs) = H9 at hJ9 hF9 hX9 hP9 ⊢
            walk_at "rd"
            refine ⟨j, 2, rfl, hJ9, by decide, by decide, fun r7 H10 b0 b1 hJ10 hF10 => ?_⟩
            walk_at "rd"
            refine ⟨by show 5 ≤ sizeLine; decide, fun t ht => ?_⟩
            obtain ⟨n2, hn2⟩ : ∃ n2 : Nat, (n : Int) - r7 = n2 := ⟨((n : Int) - r7).toNat, by omega⟩
            rw [hn2]
            have hG2 := good_ent hG
            have hP10 := hF10 _ _ (tup_off hJ9 hP9) (tup_off hJ9 hP9) hP9
            have hX10 := hX9.fr hJ9 hF10
            exact q _ (.piece n2 i m (cs.map entC)) _ (hJ10.new ht) ((hF9.trans hF10).new ht) (.tup (tup_of upd_same) (.cons (.str _) (.cons (.int _) (.cons (.int _) (.cons (.int _) (.cons (.tup (tup_of (same_upd ht _ _ hP10)) (hX10.mono (same_upd ht)).dp) .nil))))))
              ⟨⟨by omega, by omega, by omega, by omega, hG2.1, some_ent cs, hG2.lines⟩, hG2.2, by show (cs.map entC).length ≤ 5; rw [List.length_map]; exact hl⟩
    refine ite2' (fun e => ?_) (fun e => ?_)
    · walk_at "rd"
      refine x_rep (n := 9999) (by omega) (by decide) fun A hAT hAl => ?_
      walk_at "rd"
      refine ⟨by show 2 ≤ sizeLine; decide, fun u hu => ?_⟩
      have S1 := same_upd hu (o := .lst [V.int 0, .int 9999])
      have ou := hJ6.off hu
      have E1 : upd H6 u (.lst [V.int 0, .int 9999]) u = some (.lst [V.int 0, .int 9999]) := upd_same
      have hJ7 := hJ6.same S1
      have hF7 := hF06.trans (Frm.of S1)
      generalize upd H6 u (.lst [V.int 0, .int 9999]) = H7 at E1 hJ7 hF7 ⊢
      walk_at "rd"
      refine ⟨j, 2, rfl, hJ7, by decide, by decide, fun r5 H8 b0 b1 hJ8 hF8 => ?_⟩
      have hF08 := hF7.trans hF8
      refine ix_rng (lo := 0) (hi := 9999) (lst_of (hF8 _ _ ou ou E1)) (rng_cons (by omega) (by omega) (rng_cons (by omega) (by omega) rng_nil)) b0 b1 fun z y0 y1 => ?_
      obtain ⟨i, rfl⟩ : ∃ i : Nat, z = i := ⟨z.toNat, by omega⟩
      refine x_rep (n := i) (by omega) (by decide) fun X hXT hXl => ?_
      walk_at "rd"
      refine ⟨by show 2 ≤ sizeLine; decide, fun t1 ht1 => ?_⟩
      walk_at "rd"
      refine ⟨by show 1 ≤ sizeLine; decide, fun t2 ht2 => ?_⟩
      refine s_gn ?_
      have hT : TxC (A, some X) := ⟨⟨hAT, by show A.length ≤ 9999; omega⟩, fun v e => by cases e; exact ⟨hXT, by omega⟩⟩
      refine main _ t2 [.ref t1] [(A, some X)] ((hJ8.new ht1).new ht2) ((hF08.new ht1).new ht2) upd_same ?_ (good_one hT) (by show 1 ≤ 5; decide)
      exact ChV.nil.snoc (c := (A, some X)) (same_upd ht2 _ _ upd_same)
    · exact main H6 p us cs hJ6 hF06 hp6 hV6 hG hl
end
end My

set_option Elab.async false
set_option linter.all false
set_option maxRecDepth 100000
set_option maxHeartbeats 1000000
namespace My
open PySem PySem.Spec PyProof.Rows L2
local macro_rules | `(tactic| walk_at "len") => `(tactic| first | assumption | omega | decide | (simp only [List.length_append, List.length_take, List.length_drop, List.length_cons, List.length_nil, List.length_replicate]; omega))
local macro_rules | `(tactic| walk_at "side") => `(tactic| first | assumption | exact Nat.zero_le _ | decide | omega)
local macro_rules | `(tactic| walk_at "rd1") => `(tactic| first
  | with_reducible refine s_seq ?_
  | with_reducible refine x_gsub ?_
  | with_reducible refine s_asg ?_
  | ((with_reducible refine s_gn ?_); dsimp only [List.set])
  | ((with_reducible refine x_var (v := ?rdv) ?rdhv ?_); (case rdhv => rfl))
  | with_reducible refine x_c ?_
  | with_reducible refine x_op ?_
  | with_reducible refine x_cons ?_
  | with_reducible refine x_nil ?_
  | with_reducible refine x_cb ?_
  | with_reducible refine x_call ?_
  | with_reducible refine x_callS ?_
  | with_reducible refine x_revT ?_
  | with_reducible refine x_dget ?_
  | with_reducible refine x_din ?_
  | with_reducible refine x_dnotin ?_
  | with_reducible refine s_dput ?_
  | with_reducible refine x_dnew ?_
  | with_reducible refine s_try ?_
  | with_reducible refine s_raise ?_
  | with_reducible refine s_if ?_
  | with_reducible refine s_ret ?_
  | with_reducible refine s_retN ?_
  | with_reducible refine s_next ?_
  | with_reducible refine s_brk ?_
  | with_reducible refine s_cont ?_
  | with_reducible refine s_drop ?_
  | with_reducible refine s_par ?_
  | with_reducible refine s_par3 ?_
  | ((with_reducible refine s_p2 ?_); dsimp only [List.set])
  | ((with_reducible refine s_p3 ?_); dsimp only [List.set])
  | with_reducible refine f_r1 ?_
  | with_reducible refine f_r2 ?_
  | with_reducible refine f_l ?_
  | with_reducible refine f_t ?_
  | with_reducible refine f_s ?_
  | with_reducible refine c_r1 ?_
  | with_reducible refine c_r2 ?_
  | with_reducible refine c_l ?_
  | with_reducible refine c_t ?_
  | with_reducible refine c_s ?_
  | with_reducible refine x_tst ?_
  | with_reducible refine x_tru ?_
  | with_reducible refine x_truB ?_
  | with_reducible refine x_bl2 ?_
  | with_reducible refine x_int ?_
  | with_reducible refine x_str ?_
  | with_reducible refine x_not ?_
  | with_reducible refine x_and ?_
  | with_reducible refine x_or ?_
  | with_reducible refine x_andV ?_
  | with_reducible refine x_orV ?_
  | with_reducible refine x_notV ?_
  | with_reducible refine x_if ?_
  | with_reducible refine x_yes ?_
  | with_reducible refine x_un ?_
  | with_reducible refine x_tup ?_
  | with_reducible refine x_lst ?_
  | with_reducible refine x_callK ?_
  | with_reducible refine x_callK0 ?_
  | with_reducible refine x_bm ?_
  | with_reducible refine x_bm0 ?_
  | with_reducible refine x_tyS ?_
  | with_reducible refine x_sl ?_
  | with_reducible refine x_nopart ?_
  | with_reducible refine x_part ?_
  | with_reducible refine x_fmt0 ?_
  | with_reducible refine x_gc ?_
  | with_reducible refine x_gz ?_
  | with_reducible refine x_ckw ?_
  | with_reducible refine x_fmt ?_
  | with_reducible refine x_chain ?_
  | with_reducible refine a_ii ?_
  | ((with_reducible refine sl_to ?rda ?rdb ?_); (case rda => walk_at "len"); (case rdb => walk_at "len"))
  | ((with_reducible refine sl_from ?rda ?rdb ?_); (case rda => walk_at "len"); (case rdb => walk_at "len"))
  | ((with_reducible refine sl_mid ?rda ?rdb ?rdc ?_); (case rda => walk_at "len"); (case rdb => walk_at "len"); (case rdc => walk_at "len"))
  | ((with_reducible refine a_SS ?rda ?_); (case rda => walk_at "len"))
  | ((with_reducible refine ln_S ?rda ?_); (case rda => walk_at "len"))
  | with_reducible refine e_SS ?_
  | with_reducible refine ne_SS ?_
  | with_reducible refine s_ii ?_
  | ((with_reducible refine md_ii ?rdc ?_); (case rdc => first | decide | assumption | omega))
  | with_reducible refine n_i ?_
  | with_reducible refine e_ii ?_
  | with_reducible refine e_bb ?_
  | with_reducible refine ne_ii ?_
  | with_reducible refine ne_bb ?_
  | with_reducible refine lt_ii ?_
  | with_reducible refine lt_ss ?_
  | with_reducible refine le_ii ?_
  | with_reducible refine le_ss ?_
  | with_reducible refine gt_ii ?_
  | with_reducible refine gt_ss ?_
  | with_reducible refine ge_ii ?_
  | with_reducible refine e_ss ?_
  | with_reducible refine ne_ss ?_
  | with_reducible refine is_N ?_
  | with_reducible refine is_T ?_
  | with_reducible refine is_B ?_
  | with_reducible refine isn_N ?_
  | with_reducible refine isn_T ?_
  | with_reducible refine isn_B ?_
  | with_reducible refine in_s ?_
  | with_reducible refine nin_s ?_
  | with_reducible refine i_i ?_
  | with_reducible refine i_b ?_
  | with_reducible refine ab_i ?_
  | with_reducible refine mx_ii ?_
  | with_reducible refine mn_ii ?_
  | with_reducible refine ty_N ?_
  | with_reducible refine ty_B ?_
  | with_reducible refine ty_I ?_
  | with_reducible refine ty_S ?_
  | with_reducible refine ma_s ?_
  | with_reducible refine mp_s ?_
  | with_reducible refine mdg_s ?_
  | with_reducible refine mf_s ?_
  | with_reducible refine iteT ?_
  | with_reducible refine iteF ?_
  | with_reducible refine iteNt ?_
  | with_reducible refine iteNf ?_
  | with_reducible refine iteTd (by decide) ?_
  | with_reducible refine iteFd (by decide) ?_
  | with_reducible refine iteNd (by decide) ?_
  | with_reducible refine iteNdF (by decide) ?_
  | ((with_reducible refine iteFd ?rdn ?_); (case rdn => (intro rdz; cases rdz; done)))
  | ((with_reducible refine iteNdF ?rdn ?_); (case rdn => (intro rdz; cases rdz; done))))
local macro_rules | `(tactic| walk_at "rd") => `(tactic| (repeat walk_at "rd1"))
section
variable {P : Program} {w : World} {K : PySem.W.Frag} {mg : Str → Option Value} {base : Heap}
theorem rep_txts {n : Nat} {ls : List (List Nat)} (h : ∀ l ∈ ls, l.length ≤ n ∧ isT l = true) : TxtAll n (ls.map fun l => V.str (S l)) := fun x hx => by
  obtain ⟨l, hl, rfl⟩ := List.mem_map.mp hx
  exact ⟨l, (h l hl).1, (h l hl).2, rfl⟩
def sgnL : List (List Nat) := [[48], [49], [57], [43], [45], [97], [80], [83]]
theorem sgn_ok : ∀ l ∈ sgnL, l.length ≤ 1 ∧ isT l = true := by decide
def begL : List (List Nat) := [[80, 48, 48, 48, 48, 48, 48, 48], [83, 48, 48, 48, 48, 48, 48, 48, 48, 48, 48, 48, 48, 48, 48, 48, 48], [83, 48, 48, 48, 48, 48, 48, 48, 49, 48, 48, 48, 48, 48, 48, 48], [78], []]
theorem beg_ok : ∀ l ∈ begL, l.length ≤ 17 ∧ isT l = true := by decide
def sp__law_spoilt (K : PySem.W.Frag) : Sp := fun vs H Q _ => ∃ (j : Addr) (l : List Nat), vs = [.ref j, .str (S l)] ∧ JarAt H j ∧ isT l = true ∧ 0 < l.length ∧ l.length ≤ 110000 ∧ ∀ l' H', isT l' = true → l'.length ≤ 300000 → JarAt H' j → Fr j H H' → Q (.str (S l')) H'
theorem ok__law_spoilt (Y : Fx K mg) : FnOk P w K mg base CX0 2 Y.a__law_spoilt Y.fd__law_spoilt ["_law_well_here", "_law_text_here"] (sp__law_spoilt K) := by
  refine Y.F__law_spoilt.ok sc__law_spoilt (fun vs H Q E h => ?_) (fun cdv A outer st H vs Q E hr h => ?_)
  · obtain ⟨j, l, rfl, _⟩ := h
    rfl
  · obtain ⟨j, l, rfl, hJ, hT, l0, l1, q⟩ := h
    refine ⟨_, b__law_spoilt Y (ok__law_draw Y) hr, ?_⟩
    show t__law_spoilt K _ _ [some (.ref j), some (.str (S l)), none, none, none, none, none] H
    unfold t__law_spoilt
    rw [show ("01+-" : Str) = S [48, 49, 43, 45] from rfl, show ("0" : Str) = S [48] from rfl, show ("1" : Str) = S [49] from rfl, show ("9" : Str) = S [57] from rfl, show ("+" : Str) = S [43] from rfl, show ("-" : Str) = S [45] from rfl, show ("a" : Str) = S [97] from rfl, show ("P" : Str) = S [80] from rfl, show ("S" : Str) = S [83] from rfl,
      show ("P0000000" : Str) = S [80, 48, 48, 48, 48, 48, 48, 48] from rfl, show ("S0000000000000000" : Str) = S [83, 48, 48, 48, 48, 48, 48, 48, 48, 48, 48, 48, 48, 48, 48, 48, 48] from rfl, show ("S000000010000000" : Str) = S [83, 48, 48, 48, 48, 48, 48, 48, 49, 48, 48, 48, 48, 48, 48, 48] from rfl, show ("N" : Str) = S [78] from rfl, show ("" : Str) = S [] from rfl]
    walk_at "rd"
    refine ⟨j, l.length, rfl, hJ, by omega, by omega, fun r1 H1 a0 a1 hJ1 hF1 => ?_⟩
    obtain ⟨a, rfl⟩ : ∃ a : Nat, r1 = a := ⟨r1.toNat, by omega⟩
    walk_at "rd"
    refine ⟨by show 8 ≤ sizeLine; decide, fun u hu => ?_⟩
    have S1 := same_upd hu (o := .lst [V.str (S [48]), .str (S [49]), .str (S [57]), .str (S [43]), .str (S [45]), .str (S [97]), .str (S [80]), .str (S [83])])
    have ou := hJ1.off hu
    have E1 : upd H1 u (.lst [V.str (S [48]), .str (S [49]), .str (S [57]), .str (S [43]), .str (S [45]), .str (S [97]), .str (S [80]), .str (S [83])]) u = some (.lst (sgnL.map fun l => V.str (S l))) := upd_same
    have hJ2 := hJ1.same S1
    have hF2 := hF1.trans (Frm.of S1)
    generalize upd H1 u (.lst [V.str (S [48]), .str (S [49]), .str (S [57]), .str (S [43]), .str (S [45]), .str (S [97]), .str (S [80]), .str (S [83])]) = H2 at E1 hJ2 hF2 ⊢
    walk_at "rd"
    refine ⟨j, 8, rfl, hJ2, by decide, by decide, fun r2 H3 b0 b1 hJ3 hF3 => ?_⟩
    refine ix_txt (n := 1) (lst_of (hF3 _ _ ou ou E1)) (rep_txts sgn_ok) b0 b1 fun s sl sT => ?_
    have hF03 := hF2.trans hF3
    clear E1 S1 hu ou hF1 hF2 hF3 hJ1 hJ2 b0 b1
    walk_at "rd"
    have tk : ∀ n : Nat, (l.take n).length ≤ 110000 := fun n => Nat.le_trans (by rw [List.length_take]; omega) l1
    have dr : ∀ n : Nat, (l.drop n).length ≤ 110000 := fun n => Nat.le_trans (by rw [List.length_drop]; omega) l1
    have tT : ∀ n : Nat, isT (l.take n) = true := fun n => isT_take n hT
    have dT : ∀ n : Nat, isT (l.drop n) = true := fun n => isT_drop n hT
    have okA : TxtAll 300000 [V.str (S (List.take (a : Int).toNat l ++ List.drop ((a : Int) + 1).toNat l)), .str (S (List.take (a : Int).toNat l ++ s ++ List.drop (a : Int).toNat l)), .str (S (List.take (a : Int).toNat l ++ s ++ List.drop ((a : Int) + 1).toNat l)), .str (S (List.take (a : Int).toNat l)), .str (S (l ++ l))] := by
      have t1 := tk (a : Int).toNat
      have d1 := dr (a : Int).toNat
      have d2 := dr ((a : Int) + 1).toNat
      refine txt_cons ?_ ?_ (txt_cons ?_ ?_ (txt_cons ?_ ?_ (txt_cons ?_ ?_ (txt_cons ?_ ?_ txt_nil))))
      · rw [List.length_append]; omega
      · rw [isT_app, tT, dT]; rfl
      · rw [List.length_append, List.length_append]; omega
      · rw [isT_app, isT_app, tT, dT, sT]; rfl
      · rw [List.length_append, List.length_append]; omega
      · rw [isT_app, isT_app, tT, dT, sT]; rfl
      · omega
      · exact tT _
      · rw [List.length_append]; omega
      · rw [isT_app, hT]; rfl
    generalize hls : [V.str (S (List.take (a : Int).toNat l ++ List.drop ((a : Int) + 1).toNat l)), .str (S (List.take (a : Int).toNat l ++ s ++ List.drop (a : Int).toNat l)), .str (S (List.take (a : Int).toNat l ++ s ++ List.drop ((a : Int) + 1).toNat l)), .str (S (List.take (a : Int).toNat l)), .str (S (l ++ l))] = ls at okA ⊢
    have lsl : ls.length = 5 := by rw [← hls]; rfl
    clear hls
    refine ⟨by rw [lsl]; decide, fun p hp => ?_⟩
    have S1 := same_upd hp (o := .lst ls)
    have op := hJ3.off hp
    have hP4 : upd H3 p (.lst ls) p = some (.lst ls) := upd_same
    have hJ4 := hJ3.same S1
    have hF4 := hF03.trans (Frm.of S1)
    generalize upd H3 p (.lst ls) = H4 at hP4 hJ4 hF4 ⊢
    clear S1 hp hJ3 hF03
    walk_at "rd"
    refine ⟨j, 20, rfl, hJ4, by decide, by decide, fun r5 H5 b0 b1 hJ5 hF5 => ?_⟩
    have hP5 := hF5 _ _ op op hP4
    have hF05 := hF4.trans hF5
    clear hP4 hF4 hF5 hJ4
    refine lcR1_mk (by omega) (by omega) (fun D i H' => JarAt H' j ∧ Fr j H5 H' ∧ ∃ cs : List (List Nat), H' D = some (.lst (tv cs)) ∧ cs.length = i ∧ (∀ c ∈ cs, c.length = 1) ∧ ∀ c ∈ cs, isT c = true) (fun D hD => ⟨hJ5.new hD, Frm.of (same_upd hD), [], upd_same, rfl, (fun _ h => by cases h), fun _ h => by cases h⟩) (fun D i H' hD hi hp => ?_) (fun D H6 hD hp => ?_)
    · obtain ⟨hJ', hF', cs, hc, hcl, hc1, hc2⟩ := hp
      have oD := hJ5.off hD
      refine ⟨rfl, ?_⟩
      walk_at "rd"
      refine ⟨j, 4, rfl, hJ', by decide, by decide, fun r6 H7 c0 c1 hJ7 hF7 => ?_⟩
      refine ix_SS c0 (by show r6 < 4; exact c1) (by decide) fun d hd => ?_
      have td : isT [d] = true := isT_get (l := [48, 49, 43, 45]) (by decide) hd
      refine ⟨_, hF7 D _ oD oD hc, Nat.lt_of_le_of_lt (show _ ≤ 2000 by rw [tv_len]; omega) (by decide), hJ7.keep oD, Fr.cut (hF'.trans hF7) (Frm.refl H5) hD, cs ++ [[d]], ?_, by rw [List.length_append, hcl]; rfl, fun e he => ?_, fun e he => ?_⟩
      · rw [upd_same, tv_app]
        rfl
      · rcases List.mem_append.mp he with h | h
        · exact hc1 e h
        · rw [List.mem_singleton.mp h]; rfl
      · rcases List.mem_append.mp he with h | h
        · exact hc2 e h
        · rw [List.mem_singleton.mp h]; exact td
    · obtain ⟨hJ', hF', cs, hc, hcl, hc1, hc2⟩ := hp
      walk_at "rd"
      have hfl := flat_len hc1
      have hP6 := hF' _ _ op op hP5
      have hF06 := hF05.trans hF'
      have dl : cs.flatten.length ≤ 20 := by omega
      have dT2 := isT_flat hc2
      refine jn_0 (lst_of (by rw [← tv_eq]; exact hc)) (by omega) ?_
      generalize cs.flatten = dn at dl dT2 ⊢
      clear hc hcl hc1 hc2 hfl hF' hF05 hP5 hJ5
      walk_at "rd"
      refine ⟨by show 5 ≤ sizeLine; decide, fun u hu => ?_⟩
      have S1 := same_upd hu (o := .lst [V.str (S [80, 48, 48, 48, 48, 48, 48, 48]), V.str (S [83, 48, 48, 48, 48, 48, 48, 48, 48, 48, 48, 48, 48, 48, 48, 48, 48]), V.str (S [83, 48, 48, 48, 48, 48, 48, 48, 49, 48, 48, 48, 48, 48, 48, 48]), V.str (S [78]), V.str (S [])])
      have ou := hJ'.off hu
      have E1 : upd H6 u (.lst [V.str (S [80, 48, 48, 48, 48, 48, 48, 48]), V.str (S [83, 48, 48, 48, 48, 48, 48, 48, 48, 48, 48, 48, 48, 48, 48, 48, 48]), V.str (S [83, 48, 48, 48, 48, 48, 48, 48, 49, 48, 48, 48, 48, 48, 48, 48]), V.str (S [78]), V.str (S [])]) u = some (.lst (begL.map fun l => V.str (S l))) := upd_same
      have hJ7 := hJ'.same S1
      have hF7 := hF06.trans (Frm.of S1)
      have hP7 := S1 _ _ hP6
      generalize upd H6 u (.lst [V.str (S [80, 48, 48, 48, 48, 48, 48, 48]), V.str (S [83, 48, 48, 48, 48, 48, 48, 48, 48, 48, 48, 48, 48, 48, 48, 48, 48]), V.str (S [83, 48, 48, 48, 48, 48, 48, 48, 49, 48, 48, 48, 48, 48, 48, 48]), V.str (S [78]), V.str (S [])]) = H7 at E1 hJ7 hF7 hP7 ⊢
      clear S1 hu hJ' hF06 hP6
      walk_at "rd"
      refine ⟨j, 5, rfl, hJ7, by decide, by decide, fun r7 H8 c0 c1 hJ8 hF8 => ?_⟩
      refine ix_txt (n := 17) (lst_of (hF8 _ _ ou ou E1)) (rep_txts beg_ok) c0 c1 fun g gl gT => ?_
      have hP8 := hF8 _ _ op op hP7
      have hF08 := hF7.trans hF8
      clear E1 ou hF7 hF8 hP7 hJ7
      walk_at "rd"
      refine ⟨by show 2 ≤ sizeLine; decide, fun u hu => ?_⟩
      refine a_ll (same_upd hu _ _ hP8) upd_same (by rw [lsl]; show 7 ≤ sizeLine; decide) fun w2 hw2 => ?_
      have okB : TxtAll 300000 [V.str (S (l ++ s)), .str (S (g ++ dn))] := txt_cons (by rw [List.length_append]; omega) (by rw [isT_app, hT, sT]; rfl) (txt_cons (by rw [List.length_append]; omega) (by rw [isT_app, gT, dT2]; rfl) txt_nil)
      have okC := txt_app okA okB
      have hJ9 := (hJ8.new hu (o := .lst [V.str (S (l ++ s)), .str (S (g ++ dn))])).new hw2 (o := .lst (ls ++ [V.str (S (l ++ s)), .str (S (g ++ dn))]))
      have hF9 := (hF08.new hu (o := .lst [V.str (S (l ++ s)), .str (S (g ++ dn))])).new hw2 (o := .lst (ls ++ [V.str (S (l ++ s)), .str (S (g ++ dn))]))
      have ow := (hJ8.new hu (o := .lst [V.str (S (l ++ s)), .str (S (g ++ dn))])).off hw2
      have hP9 : upd (upd H8 u (.lst [V.str (S (l ++ s)), .str (S (g ++ dn))])) w2 (.lst (ls ++ [V.str (S (l ++ s)), .str (S (g ++ dn))])) w2 = some (.lst (ls ++ [V.str (S (l ++ s)), .str (S (g ++ dn))])) := upd_same
      generalize upd (upd H8 u (.lst [V.str (S (l ++ s)), .str (S (g ++ dn))])) w2 (.lst (ls ++ [V.str (S (l ++ s)), .str (S (g ++ dn))])) = H9 at hJ9 hF9 hP9 ⊢
      walk_at "rd"
      refine ⟨j, 7, rfl, hJ9, by decide, by decide, fun r8 H10 e0 e1 hJ10 hF10 => ?_⟩
      refine ix_txt (n := 300000) (lst_of (hF10 _ _ ow ow hP9)) okC e0 (by rw [List.length_append, lsl]; exact e1) fun l' m1 m2 => ?_
      exact q l' _ m2 m1 hJ10 (hF9.trans hF10)
end
end My

set_option Elab.async false
set_option linter.all false
set_option maxRecDepth 100000
set_option maxHeartbeats 1000000
namespace My
open PySem PySem.Spec PyProof.Rows L2
local macro_rules | `(tactic| walk_at "len") => `(tactic| first | assumption | omega | decide | (simp only [List.length_append, List.length_take, List.length_drop, List.length_cons, List.length_nil, List.length_replicate]; omega))
local macro_rules | `(tactic| walk_at "side") => `(tactic| first | assumption | exact Nat.zero_le _ | decide | omega)
local macro_rules | `(tactic| walk_at "rd1") => `(tactic| first
  | with_reducible refine s_seq ?_
  | with_reducible refine x_gsub ?_
  | with_reducible refine s_asg ?_
  | ((with_reducible refine s_gn ?_); dsimp only [List.set])
  | ((with_reducible refine x_var (v := ?rdv) ?rdhv ?_); (case rdhv => rfl))
  | with_reducible refine x_c ?_
  | with_reducible refine x_op ?_
  | with_reducible refine x_cons ?_
  | with_reducible refine x_nil ?_
  | with_reducible refine x_cb ?_
  | with_reducible refine x_call ?_
  | with_reducible refine x_callS ?_
  | with_reducible refine x_revT ?_
  | with_reducible refine x_dget ?_
  | with_reducible refine x_din ?_
  | with_reducible refine x_dnotin ?_
  | with_reducible refine s_dput ?_
  | with_reducible refine x_dnew ?_
  | with_reducible refine s_try ?_
  | with_reducible refine s_raise ?_
  | with_reducible refine s_if ?_
  | with_reducible refine s_ret ?_
  | with_reducible refine s_retN ?_
  | with_reducible refine s_next ?_
  | with_reducible refine s_brk ?_
  | with_reducible refine s_cont ?_
  | with_reducible refine s_drop ?_
  | with_reducible refine s_par ?_
  | with_reducible refine s_par3 ?_
  | ((with_reducible refine s_p2 ?_); dsimp only [List.set])
  | ((with_reducible refine s_p3 ?_); dsimp only [List.set])
  | with_reducible refine f_r1 ?_
  | with_reducible refine f_r2 ?_
  | with_reducible refine f_l ?_
  | with_reducible refine f_t ?_
  | with_reducible refine f_s ?_
  | with_reducible refine c_r1 ?_
  | with_reducible refine c_r2 ?_
  | with_reducible refine c_l ?_
  | with_reducible refine c_t ?_
  | with_reducible refine c_s ?_
  | with_reducible refine x_tst ?_
  | with_reducible refine x_tru ?_
  | with_reducible refine x_truB ?_
  | with_reducible refine x_bl2 ?_
  | with_reducible refine x_int ?_
  | with_reducible refine x_str ?_
  | with_reducible refine x_not ?_
  | with_reducible refine x_and ?_
  | with_reducible refine x_or ?_
  | with_reducible refine x_andV ?_
  | with_reducible refine x_orV ?_
  | with_reducible refine x_notV ?_
  | with_reducible refine x_if ?_
  | with_reducible refine x_yes ?_
  | with_reducible refine x_un ?_
  | with_reducible refine x_tup ?_
  | with_reducible refine x_lst ?_
  | with_reducible refine x_callK ?_
  | with_reducible refine x_callK0 ?_
  | with_reducible refine x_bm ?_
  | with_reducible refine x_bm0 ?_
  | with_reducible refine x_tyS ?_
  | with_reducible refine x_sl ?_
  | with_reducible refine x_nopart ?_
  | with_reducible refine x_part ?_
  | with_reducible refine x_fmt0 ?_
  | with_reducible refine x_gc ?_
  | with_reducible refine x_gz ?_
  | with_reducible refine x_ckw ?_
  | with_reducible refine x_fmt ?_
  | with_reducible refine x_chain ?_
  | with_reducible refine a_ii ?_
  | ((with_reducible refine sl_to ?rda ?rdb ?_); (case rda => walk_at "len"); (case rdb => walk_at "len"))
  | ((with_reducible refine sl_from ?rda ?rdb ?_); (case rda => walk_at "len"); (case rdb => walk_at "len"))
  | ((with_reducible refine sl_mid ?rda ?rdb ?rdc ?_); (case rda => walk_at "len"); (case rdb => walk_at "len"); (case rdc => walk_at "len"))
  | ((with_reducible refine a_SS ?rda ?_); (case rda => walk_at "len"))
  | ((with_reducible refine ln_S ?rda ?_); (case rda => walk_at "len"))
  | with_reducible refine e_SS ?_
  | with_reducible refine ne_SS ?_
  | with_reducible refine s_ii ?_
  | ((with_reducible refine md_ii ?rdc ?_); (case rdc => first | decide | assumption | omega))
  | with_reducible refine n_i ?_
  | with_reducible refine e_ii ?_
  | with_reducible refine e_bb ?_
  | with_reducible refine ne_ii ?_
  | with_reducible refine ne_bb ?_
  | with_reducible refine lt_ii ?_
  | with_reducible refine lt_ss ?_
  | with_reducible refine le_ii ?_
  | with_reducible refine le_ss ?_
  | with_reducible refine gt_ii ?_
  | with_reducible refine gt_ss ?_
  | with_reducible refine ge_ii ?_
  | with_reducible refine e_ss ?_
  | with_reducible refine ne_ss ?_
  | with_reducible refine is_N ?_
  | with_reducible refine is_T ?_
  | with_reducible refine is_B ?_
  | with_reducible refine isn_N ?_
  | with_reducible refine isn_T ?_
  | with_reducible refine isn_B ?_
  | with_reducible refine in_s ?_
  | with_reducible refine nin_s ?_
  | with_reducible refine i_i ?_
  | with_reducible refine i_b ?_
  | with_reducible refine ab_i ?_
  | with_reducible refine mx_ii ?_
  | with_reducible refine mn_ii ?_
  | with_reducible refine ty_N ?_
  | with_reducible refine ty_B ?_
  | with_reducible refine ty_I ?_
  | with_reducible refine ty_S ?_
  | with_reducible refine ma_s ?_
  | with_reducible refine mp_s ?_
  | with_reducible refine mdg_s ?_
  | with_reducible refine mf_s ?_
  | with_reducible refine iteT ?_
  | with_reducible refine iteF ?_
  | with_reducible refine iteNt ?_
  | with_reducible refine iteNf ?_
  | with_reducible refine iteTd (by decide) ?_
  | with_reducible refine iteFd (by decide) ?_
  | with_reducible refine iteNd (by decide) ?_
  | with_reducible refine iteNdF (by decide) ?_
  | ((with_reducible refine iteFd ?rdn ?_); (case rdn => (intro rdz; cases rdz; done)))
  | ((with_reducible refine iteNdF ?rdn ?_); (case rdn => (intro rdz; cases rdz; done))))
local macro_rules | `(tactic| walk_at "rd") => `(tactic| (repeat walk_at "rd1"))
section
/-! what is small, what is no row -/
def leafB : PyData → Bool
  | .str z => decide (z.length ≤ 300000)
  | _ => true
def rowS : PyData → Bool
  | .tuple ys => ys.all leafB
  | _ => true
def szB : PyData → Bool
  | .tuple es => decide (es.length ≤ 300000) && es.all rowS
  | _ => true
theorem sz_rows {cs : List Ch} (h : szB (chsD cs) = true) : ∀ c ∈ cs, BgC c := by
  intro c hc
  have h' : (decide ((cs.map chD).length ≤ 300000) && (cs.map chD).all rowS) = true := h
  rw [Bool.and_eq_true] at h'
  have h2 := List.all_eq_true.mp h'.2 (chD c) (List.mem_map.mpr ⟨c, hc, rfl⟩)
  obtain ⟨k, o⟩ := c
  have h3 : [PyData.str (S k), vlD o].all leafB = true := h2
  rw [List.all_cons, List.all_cons, Bool.and_eq_true, Bool.and_eq_true] at h3
  have h4 : (S k).length ≤ 300000 := of_decide_eq_true h3.1
  rw [S_len] at h4
  refine ⟨h4, fun v e => ?_⟩
  cases e
  have h5 : (S v).length ≤ 300000 := of_decide_eq_true h3.2.1
  rw [S_len] at h5
  exact h5
theorem sz_of {e : PyData} (h : szB e = true) : (∀ es, e = .tuple es → es.length ≤ 300000) ∧ ∀ cs, e = chsD cs → ∀ c ∈ cs, BgC c := by
  refine ⟨fun es he => ?_, fun cs he => ?_⟩
  · subst he
    have h' : (decide (es.length ≤ 300000) && es.all rowS) = true := h
    rw [Bool.and_eq_true] at h'
    exact of_decide_eq_true h'.1
  · subst he
    exact sz_rows h
/-- a value that is small enough to ask about, and no letter -/
def BadL (d : PyData) : Prop := LetSz d ∧ isLetD d = false
theorem letSz_of {d0 : PyData} {r : List PyData} (h0 : SeqAt.shaped d0 = true) (h : ∀ e ∈ d0 :: r, szB e = true) : LetSz (.tuple (d0 :: r)) := by
  intro ds e
  cases e
  refine ⟨fun d h1 => ?_, fun e he => sz_of (h e he)⟩
  cases h1
  exact h0
theorem sz_chs {cs : List Ch} (h : ∀ c ∈ cs, TxC c) (hl : cs.length ≤ 5) : szB (chsD cs) = true := by
  show (decide ((cs.map chD).length ≤ 300000) && (cs.map chD).all rowS) = true
  rw [Bool.and_eq_true]
  refine ⟨decide_eq_true (by rw [List.length_map]; omega), List.all_eq_true.mpr fun e he => ?_⟩
  obtain ⟨c, hc, rfl⟩ := List.mem_map.mp he
  obtain ⟨⟨_, h1⟩, h2⟩ := h c hc
  obtain ⟨k, o⟩ := c
  show [PyData.str (S k), vlD o].all leafB = true
  have e1 : leafB (.str (S k)) = true := decide_eq_true (by rw [S_len]; exact Nat.le_trans h1 (by omega))
  rw [List.all_cons, e1, List.all_cons, List.all_nil, Bool.and_true, Bool.true_and]
  cases o with
  | none => rfl
  | some v => exact decide_eq_true (by rw [S_len]; exact Nat.le_trans (h2 v rfl).2 (by omega))
def NoR (d : PyData) : Prop := szB d = true ∧ (isChsD d && lineB d) = false
theorem NoR.ent {d : PyData} (h : NoR d) : (isEntD d && lineB d) = false := by
  have h2 := h.2
  unfold isEntD
  cases h1 : isChsD d <;> cases h3 : lineB d <;> rw [h1, h3] at h2 <;> first | rfl | exact Bool.and_false _ | cases h2
def nr1 : List PyData := [.list [], .none, .tuple [.tuple [.str (S [97])]], .tuple [.tuple [.str (S [98]), .str (S [120])], .tuple [.str (S [97]), .str (S [120])]], .tuple [.tuple [.str (S [97]), .str (S [120])], .tuple [.str (S [97]), .str (S [121])]], .tuple [.tuple [.str (S [97]), .int 1]], .tuple [.tuple [.int 1, .str (S [120])]]]
def nr2 (A B : List Nat) : List PyData := [.tuple [.tuple [.str (S [97, 10]), .str (S [120])]], .tuple [.list [.str (S [97]), .str (S [120])]], .tuple [.str (S [97, 98])], .tuple [.tuple [.str (S [97]), .str (S [120]), .str (S [121])]], .int 3, .tuple [.tuple [.str (S A), .str (S [])]], .tuple [.tuple [.str (S []), .str (S B)]]]
theorem nr1_no : ∀ d ∈ nr1, NoR d := by
  have h : ∀ d ∈ nr1, szB d = true ∧ (isChsD d && lineB d) = false := by decide
  exact h
theorem nr2_no {A B : List Nat} (hA : A.length = 10000) (hB : B.length = 10000) : ∀ d ∈ nr2 A B, NoR d := by
  intro d hd
  have eA : decide ((S A).length ≤ 300000) = true := decide_eq_true (by rw [S_len]; omega)
  have eB : decide ((S B).length ≤ 300000) = true := decide_eq_true (by rw [S_len]; omega)
  have fA : decide ((S A).length ≤ 9999) = false := decide_eq_false (by rw [S_len]; omega)
  have fB : decide ((S B).length ≤ 9999) = false := decide_eq_false (by rw [S_len]; omega)
  unfold nr2 at hd
  simp only [List.mem_cons, List.not_mem_nil, or_false] at hd
  rcases hd with rfl | rfl | rfl | rfl | rfl | rfl | rfl
  · exact ⟨by decide, by decide⟩
  · exact ⟨by decide, by decide⟩
  · exact ⟨by decide, by decide⟩
  · exact ⟨by decide, by decide⟩
  · exact ⟨by decide, by decide⟩
  · refine ⟨?_, ?_⟩
    · show (true && ((decide ((S A).length ≤ 300000) && (true && true)) && true)) = true
      rw [eA]; rfl
    · have e : lineB (.tuple [.tuple [.str (S A), .str (S [])]]) = false := by
        show ((decide ((S A).length ≤ 9999) && (true && true)) && true) = false
        rw [fA]; rfl
      rw [e, Bool.and_false]
  · refine ⟨?_, ?_⟩
    · show (true && ((true && (decide ((S B).length ≤ 300000) && true)) && true)) = true
      rw [eB]; rfl
    · have e : lineB (.tuple [.tuple [.str (S []), .str (S B)]]) = false := by
        show ((true && (decide ((S B).length ≤ 9999) && true)) && true) = false
        rw [fB]; rfl
      rw [e, Bool.and_false]
/-! letters that are bent -/
def bnN : List PyData := [.tuple [.str (S noneL), .int 1], .tuple [.str (S [78, 111, 110, 101])], .str (S noneL), .list [.str (S noneL)], .tuple [], .tuple [.str (S noneL), .str (S noneL)], .tuple [.none], .tuple [.str (S pieceL)]]
theorem bnN_no : ∀ d ∈ bnN, BadL d := by
  have at1 : ∀ d, szB d = true → ∀ e ∈ [d], szB e = true := fun d h e he => by rw [List.mem_singleton.mp he]; exact h
  have h : ∀ d ∈ bnN, isLetD d = false := by decide
  have g : ∀ d ∈ bnN, LetSz d := by
    intro d hd
    unfold bnN at hd
    simp only [List.mem_cons, List.not_mem_nil, or_false] at hd
    rcases hd with rfl | rfl | rfl | rfl | rfl | rfl | rfl | rfl
    · exact letSz_of shaped_noneL (by decide)
    · exact letSz_of (shaped_str (by decide)) (by decide)
    · intro ds e; cases e
    · intro ds e; cases e
    · intro ds e; cases e; exact ⟨fun d h => by (cases h), fun e he => by cases he⟩
    · exact letSz_of shaped_noneL (by decide)
    · exact letSz_of (by decide) (by decide)
    · exact letSz_of shaped_pieceL (by decide)
  exact fun d hd => ⟨g d hd, h d hd⟩
def bd0 : List PyData := [.str (S [112, 97, 114, 116, 32]), .str (S [80, 105, 101, 99, 101]), .none, .str (S noneL), .int 1, .tuple [.str (S partL)]]
/-- heads that make no letter of rows of one size, of another -/
def HdB (d : PyData) : Prop := SeqAt.shaped d = true ∧ szB d = true ∧ strIs partL d = false ∧ strIs pieceL d = false
theorem shaped_tupS {l : List Nat} (h : isT l = true) : SeqAt.shaped (.tuple [.str (S l)]) = true := by
  have h1 := canLay_str h
  unfold SeqAt.shaped
  rw [Bool.and_eq_true]
  refine ⟨by simp [PyData.canLay0, PyData.canLayAll0, h1], decide_eq_true ?_⟩
  simp only [PyData.depth, PyData.depthAll]
  omega
theorem bd0_no : ∀ d ∈ bd0, HdB d := by
  have h : ∀ d ∈ bd0, szB d = true ∧ strIs partL d = false ∧ strIs pieceL d = false := by decide
  refine fun d hd => ⟨?_, h d hd⟩
  unfold bd0 at hd
  simp only [List.mem_cons, List.not_mem_nil, or_false] at hd
  rcases hd with rfl | rfl | rfl | rfl | rfl | rfl
  · exact shaped_str (by decide)
  · exact shaped_str (by decide)
  · decide
  · exact shaped_noneL
  · decide
  · exact shaped_tupS (by decide)
theorem head_bad {d x : PyData} {r : List PyData} (h1 : strIs partL d = true → lpart (x :: r) = false) (h2 : strIs pieceL d = true → lpiece (x :: r) = false) : isLetD (.tuple (d :: x :: r)) = false := by
  show (if strIs noneL d = true then decide ((x :: r).length = 0) else if strIs partL d = true then lpart (x :: r) else if strIs pieceL d = true then lpiece (x :: r) else false) = false
  by_cases e0 : strIs noneL d = true
  · rw [if_pos e0]; rfl
  · rw [if_neg e0]
    by_cases e1 : strIs partL d = true
    · rw [if_pos e1]; exact h1 e1
    · rw [if_neg e1]
      by_cases e2 : strIs pieceL d = true
      · rw [if_pos e2]; exact h2 e2
      · rw [if_neg e2]
theorem HdB.bad {d x : PyData} {r : List PyData} (h : HdB d) (hr : ∀ e ∈ x :: r, szB e = true) : BadL (.tuple (d :: x :: r)) := by
  refine ⟨letSz_of h.1 fun e he => ?_, head_bad (fun z => ?_) (fun z => ?_)⟩
  · rcases List.mem_cons.mp he with rfl | he
    · exact h.2.1
    · exact hr e he
  · rw [h.2.2.1] at z; cases z
  · rw [h.2.2.2] at z; cases z
/-- numbers that are none of a letter's -/
def bd1 (far : Int) : List PyData := [.int (-1), .int far, .none, .bool true, .str (S [49]), .tuple [.int 1]]
theorem bd1_no {far : Int} (h : 100000000 ≤ far) : ∀ d ∈ bd1 far, szB d = true ∧ ∀ lo : Int, 0 ≤ lo → isNumD lo 99999999 d = false := by
  intro d hd
  unfold bd1 at hd
  simp only [List.mem_cons, List.not_mem_nil, or_false] at hd
  rcases hd with rfl | rfl | rfl | rfl | rfl | rfl
  · refine ⟨rfl, fun lo hlo => ?_⟩
    show (decide (lo ≤ -1) && _) = false
    rw [decide_eq_false (by omega)]; rfl
  · refine ⟨rfl, fun lo hlo => ?_⟩
    show (_ && decide (far ≤ 99999999)) = false
    rw [decide_eq_false (show ¬ far ≤ 99999999 by omega), Bool.and_false]
  · exact ⟨rfl, fun _ _ => rfl⟩
  · exact ⟨rfl, fun _ _ => rfl⟩
  · exact ⟨by decide, fun _ _ => rfl⟩
  · exact ⟨by decide, fun _ _ => rfl⟩
def bd2 (p far : Int) : List PyData := [.int (-1), .int p, .int (p + far), .none, .bool false, .str (S [48])]
theorem bd2_no {p far : Int} (h : 0 ≤ far) : ∀ d ∈ bd2 p far, szB d = true ∧ isIdxD (.int p) d = false := by
  intro d hd
  unfold bd2 at hd
  simp only [List.mem_cons, List.not_mem_nil, or_false] at hd
  rcases hd with rfl | rfl | rfl | rfl | rfl | rfl
  · exact ⟨rfl, rfl⟩
  · refine ⟨rfl, ?_⟩
    show (_ && decide (p ≤ p - 1)) = false
    rw [decide_eq_false (show ¬ p ≤ p - 1 by omega), Bool.and_false]
  · refine ⟨rfl, ?_⟩
    show (_ && decide (p + far ≤ p - 1)) = false
    rw [decide_eq_false (show ¬ p + far ≤ p - 1 by omega), Bool.and_false]
  · exact ⟨rfl, rfl⟩
  · exact ⟨rfl, rfl⟩
  · exact ⟨by decide, rfl⟩
def bd3 (i far : Int) : List PyData := [.int i, .int 0, .int (-1), .int 10000, .int (10000 + far), .none, .str (S [49])]
theorem bd3_no {i far : Int} (h : 0 ≤ far) : ∀ d ∈ bd3 i far, szB d = true ∧ (isNumD 1 9999 d && isIdxD d (.int i)) = false := by
  intro d hd
  unfold bd3 at hd
  simp only [List.mem_cons, List.not_mem_nil, or_false] at hd
  rcases hd with rfl | rfl | rfl | rfl | rfl | rfl | rfl
  · refine ⟨rfl, ?_⟩
    have e : isIdxD (.int i) (.int i) = false := by
      show (_ && decide (i ≤ i - 1)) = false
      rw [decide_eq_false (show ¬ i ≤ i - 1 by omega), Bool.and_false]
    rw [e, Bool.and_false]
  · exact ⟨rfl, rfl⟩
  · exact ⟨rfl, rfl⟩
  · exact ⟨rfl, rfl⟩
  · refine ⟨rfl, ?_⟩
    have e : isNumD 1 9999 (.int (10000 + far)) = false := by
      show (_ && decide (10000 + far ≤ 9999)) = false
      rw [decide_eq_false (show ¬ 10000 + far ≤ 9999 by omega), Bool.and_false]
    rw [e, Bool.false_and]
  · exact ⟨rfl, rfl⟩
  · exact ⟨by decide, rfl⟩
def bd4 : PyData := .tuple [.tuple [.str (S [97]), .str (S [120])], .tuple [.str (S [98]), .none]]
theorem bd4_no : szB bd4 = true ∧ (isEntD bd4 && lineB bd4) = false := ⟨by decide, by decide⟩
section
variable {n i p : Nat} {cs : List Ch}
theorem sz_mem {a b : PyData} (ha : szB a = true) (hb : szB b = true) : ∀ e ∈ [a, b], szB e = true := fun e he => by
  rcases List.mem_cons.mp he with rfl | he
  · exact ha
  · rw [List.mem_singleton.mp he]; exact hb
theorem part0 {d : PyData} (hc : szB (chsD cs) = true) (h : HdB d ∨ d = .str (S pieceL)) : BadL (.tuple [d, .int n, chsD cs]) := by
  rcases h with h | rfl
  · exact h.bad (sz_mem rfl hc)
  · refine ⟨letSz_of shaped_pieceL fun e he => ?_, head_bad (fun z => absurd z (by decide)) fun _ => rfl⟩
    rcases List.mem_cons.mp he with rfl | he
    · decide
    · exact sz_mem rfl hc e he
theorem part1 {d : PyData} (hc : szB (chsD cs) = true) (h : szB d = true) (h2 : isNumD 1 99999999 d = false) : BadL (.tuple [.str (S partL), d, chsD cs]) := by
  refine ⟨letSz_of shaped_partL fun e he => ?_, ?_⟩
  · rcases List.mem_cons.mp he with rfl | he
    · decide
    · exact sz_mem h hc e he
  · rw [let_part, h2]; rfl
theorem part2 {d : PyData} (h : NoR d) : BadL (.tuple [.str (S partL), .int n, d]) := by
  refine ⟨letSz_of shaped_partL fun e he => ?_, ?_⟩
  · rcases List.mem_cons.mp he with rfl | he
    · decide
    · exact sz_mem rfl h.1 e he
  · rw [let_part, h.2, Bool.and_false]
theorem sz_mem4 {a b c d : PyData} (ha : szB a = true) (hb : szB b = true) (hc : szB c = true) (hd : szB d = true) : ∀ e ∈ [a, b, c, d], szB e = true := fun e he => by
  rcases List.mem_cons.mp he with rfl | he
  · exact ha
  · rcases List.mem_cons.mp he with rfl | he
    · exact hb
    · exact sz_mem hc hd e he
theorem piece0 {d : PyData} (hc : szB (chsD cs) = true) (h : HdB d ∨ d = .str (S partL)) : BadL (.tuple [d, .int n, .int i, .int p, chsD cs]) := by
  rcases h with h | rfl
  · exact h.bad (sz_mem4 rfl rfl rfl hc)
  · refine ⟨letSz_of shaped_partL fun e he => ?_, head_bad (fun _ => rfl) fun z => absurd z (by decide)⟩
    rcases List.mem_cons.mp he with rfl | he
    · decide
    · exact sz_mem4 rfl rfl rfl hc e he
theorem piece_sz {a b c d : PyData} (ha : szB a = true) (hb : szB b = true) (hc : szB c = true) (hd : szB d = true) : LetSz (.tuple [.str (S pieceL), a, b, c, d]) := letSz_of shaped_pieceL fun e he => by
  rcases List.mem_cons.mp he with rfl | he
  · decide
  · exact sz_mem4 ha hb hc hd e he
theorem piece1 {d : PyData} (hc : szB (chsD cs) = true) (h : szB d = true) (h2 : isNumD 0 99999999 d = false) : BadL (.tuple [.str (S pieceL), d, .int i, .int p, chsD cs]) :=
  ⟨piece_sz h rfl rfl hc, by rw [let_piece, h2]; rfl⟩
theorem piece2 {d : PyData} (hc : szB (chsD cs) = true) (h : szB d = true) (h2 : isIdxD (.int p) d = false) : BadL (.tuple [.str (S pieceL), .int n, d, .int p, chsD cs]) :=
  ⟨piece_sz rfl h rfl hc, by rw [let_piece, h2, Bool.false_and, Bool.and_false, Bool.and_false]⟩
theorem piece3 {d : PyData} (hc : szB (chsD cs) = true) (h : szB d = true) (h2 : (isNumD 1 9999 d && isIdxD d (.int i)) = false) : BadL (.tuple [.str (S pieceL), .int n, .int i, d, chsD cs]) :=
  ⟨piece_sz rfl rfl h hc, by rw [let_piece, ← Bool.and_assoc (isNumD 1 9999 d), h2, Bool.false_and, Bool.and_false]⟩
theorem piece4 {d : PyData} (h : szB d = true) (h2 : (isEntD d && lineB d) = false) : BadL (.tuple [.str (S pieceL), .int n, .int i, .int p, d]) :=
  ⟨piece_sz rfl rfl rfl h, by rw [let_piece, h2, Bool.and_false, Bool.and_false, Bool.and_false]⟩
end
end
end My

set_option Elab.async false
set_option linter.all false
set_option maxRecDepth 100000
set_option maxHeartbeats 1000000
namespace My
open PySem PySem.Spec PyProof.Rows L2
local macro_rules | `(tactic| walk_at "len") => `(tactic| first | assumption | omega | decide | (simp only [List.length_append, List.length_take, List.length_drop, List.length_cons, List.length_nil, List.length_replicate]; omega))
local macro_rules | `(tactic| walk_at "side") => `(tactic| first | assumption | exact Nat.zero_le _ | decide | omega)
local macro_rules | `(tactic| walk_at "rd1") => `(tactic| first
  | with_reducible refine s_seq ?_
  | with_reducible refine x_gsub ?_
  | with_reducible refine s_asg ?_
  | ((with_reducible refine s_gn ?_); dsimp only [List.set])
  | ((with_reducible refine x_var (v := ?rdv) ?rdhv ?_); (case rdhv => rfl))
  | with_reducible refine x_c ?_
  | with_reducible refine x_op ?_
  | with_reducible refine x_cons ?_
  | with_reducible refine x_nil ?_
  | with_reducible refine x_cb ?_
  | with_reducible refine x_call ?_
  | with_reducible refine x_callS ?_
  | with_reducible refine x_revT ?_
  | with_reducible refine x_dget ?_
  | with_reducible refine x_din ?_
  | with_reducible refine x_dnotin ?_
  | with_reducible refine s_dput ?_
  | with_reducible refine x_dnew ?_
  | with_reducible refine s_try ?_
  | with_reducible refine s_raise ?_
  | with_reducible refine s_if ?_
  | with_reducible refine s_ret ?_
  | with_reducible refine s_retN ?_
  | with_reducible refine s_next ?_
  | with_reducible refine s_brk ?_
  | with_reducible refine s_cont ?_
  | with_reducible refine s_drop ?_
  | with_reducible refine s_par ?_
  | with_reducible refine s_par3 ?_
  | ((with_reducible refine s_p2 ?_); dsimp only [List.set])
  | ((with_reducible refine s_p3 ?_); dsimp only [List.set])
  | with_reducible refine f_r1 ?_
  | with_reducible refine f_r2 ?_
  | with_reducible refine f_l ?_
  | with_reducible refine f_t ?_
  | with_reducible refine f_s ?_
  | with_reducible refine c_r1 ?_
  | with_reducible refine c_r2 ?_
  | with_reducible refine c_l ?_
  | with_reducible refine c_t ?_
  | with_reducible refine c_s ?_
  | with_reducible refine x_tst ?_
  | with_reducible refine x_tru ?_
  | with_reducible refine x_truB ?_
  | with_reducible refine x_bl2 ?_
  | with_reducible refine x_int ?_
  | with_reducible refine x_str ?_
  | with_reducible refine x_not ?_
  | with_reducible refine x_and ?_
  | with_reducible refine x_or ?_
  | with_reducible refine x_andV ?_
  | with_reducible refine x_orV ?_
  | with_reducible refine x_notV ?_
  | with_reducible refine x_if ?_
  | with_reducible refine x_yes ?_
  | with_reducible refine x_un ?_
  | with_reducible refine x_tup ?_
  | with_reducible refine x_lst ?_
  | with_reducible refine x_callK ?_
  | with_reducible refine x_callK0 ?_
  | with_reducible refine x_bm ?_
  | with_reducible refine x_bm0 ?_
  | with_reducible refine x_tyS ?_
  | with_reducible refine x_sl ?_
  | with_reducible refine x_nopart ?_
  | with_reducible refine x_part ?_
  | with_reducible refine x_fmt0 ?_
  | with_reducible refine x_gc ?_
  | with_reducible refine x_gz ?_
  | with_reducible refine x_ckw ?_
  | with_reducible refine x_fmt ?_
  | with_reducible refine x_chain ?_
  | with_reducible refine a_ii ?_
  | ((with_reducible refine sl_to ?rda ?rdb ?_); (case rda => walk_at "len"); (case rdb => walk_at "len"))
  | ((with_reducible refine sl_from ?rda ?rdb ?_); (case rda => walk_at "len"); (case rdb => walk_at "len"))
  | ((with_reducible refine sl_mid ?rda ?rdb ?rdc ?_); (case rda => walk_at "len"); (case rdb => walk_at "len"); (case rdc => walk_at "len"))
  | ((with_reducible refine a_SS ?rda ?_); (case rda => walk_at "len"))
  | ((with_reducible refine ln_S ?rda ?_); (case rda => walk_at "len"))
  | with_reducible refine e_SS ?_
  | with_reducible refine ne_SS ?_
  | with_reducible refine s_ii ?_
  | ((with_reducible refine md_ii ?rdc ?_); (case rdc => first | decide | assumption | omega))
  | with_reducible refine n_i ?_
  | with_reducible refine e_ii ?_
  | with_reducible refine e_bb ?_
  | with_reducible refine ne_ii ?_
  | with_reducible refine ne_bb ?_
  | with_reducible refine lt_ii ?_
  | with_reducible refine lt_ss ?_
  | with_reducible refine le_ii ?_
  | with_reducible refine le_ss ?_
  | with_reducible refine gt_ii ?_
  | with_reducible refine gt_ss ?_
  | with_reducible refine ge_ii ?_
  | with_reducible refine e_ss ?_
  | with_reducible refine ne_ss ?_
  | with_reducible refine is_N ?_
  | with_reducible refine is_T ?_
  | with_reducible refine is_B ?_
  | with_reducible refine isn_N ?_
  | with_reducible refine isn_T ?_
  | with_reducible refine isn_B ?_
  | with_reducible refine in_s ?_
  | with_reducible refine nin_s ?_
  | with_reducible refine i_i ?_
  | with_reducible refine i_b ?_
  | with_reducible refine ab_i ?_
  | with_reducible refine mx_ii ?_
  | with_reducible refine mn_ii ?_
  | with_reducible refine ty_N ?_
  | with_reducible refine ty_B ?_
  | with_reducible refine ty_I ?_
  | with_reducible refine ty_S ?_
  | with_reducible refine ma_s ?_
  | with_reducible refine mp_s ?_
  | with_reducible refine mdg_s ?_
  | with_reducible refine mf_s ?_
  | with_reducible refine iteT ?_
  | with_reducible refine iteF ?_
  | with_reducible refine iteNt ?_
  | with_reducible refine iteNf ?_
  | with_reducible refine iteTd (by decide) ?_
  | with_reducible refine iteFd (by decide) ?_
  | with_reducible refine iteNd (by decide) ?_
  | with_reducible refine iteNdF (by decide) ?_
  | ((with_reducible refine iteFd ?rdn ?_); (case rdn => (intro rdz; cases rdz; done)))
  | ((with_reducible refine iteNdF ?rdn ?_); (case rdn => (intro rdz; cases rdz; done))))
local macro_rules | `(tactic| walk_at "rd") => `(tactic| (repeat walk_at "rd1"))
section
variable {P : Program} {w : World} {K : PySem.W.Frag} {mg : Str → Option Value} {base : Heap}
theorem dpAll_app {H : Hp} : ∀ {us vs : List V} {ds es : List PyData}, DpAll K H us ds → DpAll K H vs es → DpAll K H (us ++ vs) (ds ++ es)
  | [], _, [], _, _, h => h
  | _ :: _, _, _ :: _, _, .cons h t, g => .cons h (dpAll_app t g)
theorem dpAll_take {H : Hp} : ∀ {us : List V} {ds : List PyData} (k : Nat), DpAll K H us ds → DpAll K H (us.take k) (ds.take k)
  | _, _, 0, _ => .nil
  | [], [], _ + 1, _ => .nil
  | _ :: _, _ :: _, k + 1, .cons h t => .cons h (dpAll_take k t)
theorem dpAll_drop {H : Hp} : ∀ {us : List V} {ds : List PyData} (k : Nat), DpAll K H us ds → DpAll K H (us.drop k) (ds.drop k)
  | _, _, 0, h => h
  | [], [], _ + 1, _ => .nil
  | _ :: _, _ :: _, k + 1, .cons _ t => dpAll_drop k t
theorem a_tt' {H : Hp} {Q : VK} {p q : Addr} {xs ys : List V} (hp : SqT K H p xs) (hq : SqT K H q ys) (hl : xs.length + ys.length ≤ sizeLine) (h : ∀ r H', Same H H' → SqT K H' r (xs ++ ys) → Q (.ref r) H') : rADD K (.ref p) (.ref q) H Q :=
  a_tt hp hq hl ⟨fun e => h q H (Same.refl H) (by rw [e]; exact hq), fun _ e => h p H (Same.refl H) (by rw [e, List.append_nil]; exact hp), fun _ _ l hl => h l _ (same_upd hl) (tup_of upd_same)⟩
/-- a drawing's heap and a tuple's members in it -/
structure Bn (K : PySem.W.Frag) (j : Addr) (H G : Hp) (a : Addr) (us : List V) (ds : List PyData) : Prop where
  jar : JarAt G j
  fr : Fr j H G
  sq : SqT K (ms [j] G) a us
  dps : DpAll K (ms [j] G) us ds
section
variable {j a : Addr} {H G G' : Hp} {us : List V} {ds : List PyData}
theorem Bn.same (h : Bn K j H G a us ds) (e : Same G G') : Bn K j H G' a us ds := ⟨h.jar.same e, h.fr.trans (Frm.of e), same_sqt (ms_same e) h.sq, dpAll_mono (ms_same e) _ _ h.dps⟩
theorem Bn.draw (h : Bn K j H G a us ds) (hJ : JarAt G' j) (hF : Fr j G G') : Bn K j H G' a us ds := ⟨hJ, h.fr.trans hF, same_sqt (ms1_fr hF) h.sq, dpAll_mono (ms1_fr hF) _ _ h.dps⟩
theorem Bn.sqt (h : Bn K j H G a us ds) : SqT K G a us := same_sqt ms_le h.sq
theorem bent_fin {Q : VK} {N : L2.St → Hp → Prop} {v : V} {d : PyData} {far : Int} (St : Bn K j H G a us ds) (hl : us.length ≤ 10) (k : Nat) (hv : Dp K (ms [j] G) v d) (q : ∀ t G', JarAt G' j → Fr j H G' → Dp K (ms [j] G') (.ref t) (.tuple (ds.take k ++ [d] ++ ds.drop (k + 1))) → Q (.ref t) G') :
    tRet (tOp (rADD K) (tOp (rADD K) (tSl (rSL K) (tVar 1) tNoPart (tPart (tVar 3))) (tTup (tCons (tVar 4) tNil))) (tSl (rSL K) (tVar 1) (tPart (tOp (rADD K) (tVar 3) (tC (.int 1)))) tNoPart)) { nx := N, rt := Q } [some (.ref j), some (.ref a), some (.int far), some (.int k), some v] G := by
  have l1 : (us.take k).length ≤ 10 := Nat.le_trans (by rw [List.length_take]; omega) hl
  have l2 : (us.drop (k + 1)).length ≤ 10 := Nat.le_trans (by rw [List.length_drop]; omega) hl
  walk_at "rd"
  refine sl_T St.sqt fun p1 G1 S1 h1 => ?_
  rw [cutV_to] at h1
  walk_at "rd"
  refine ⟨by show 1 ≤ sizeLine; decide, fun t1 hq1 => ?_⟩
  have S2 := same_upd hq1 (o := .tup [v])
  have E2 : upd G1 t1 (.tup [v]) t1 = some (.tup [v]) := upd_same
  generalize upd G1 t1 (.tup [v]) = G2 at S2 E2 ⊢
  walk_at "rd"
  refine a_tt' (same_sqt S2 h1) (tup_of E2) (Nat.le_trans (show _ ≤ 100 by rw [List.length_singleton]; omega) (by decide)) fun r G3 S3 h3 => ?_
  have S13 := (S1.trans S2).trans S3
  walk_at "rd"
  refine sl_T (St.same S13).sqt fun p2 G4 S4 h4 => ?_
  rw [show (k : Int) + 1 = ((k + 1 : Nat) : Int) by omega, cutV_from] at h4
  walk_at "rd"
  refine a_tt' (same_sqt S4 h3) h4 (Nat.le_trans (show _ ≤ 100 by rw [List.length_append, List.length_singleton]; omega) (by decide)) fun r2 G5 S5 h5 => ?_
  have St5 := St.same ((S13.trans S4).trans S5)
  refine q r2 G5 St5.jar St5.fr (.tup (ms_sqt (ms1_nt St5.jar) h5) ?_)
  exact dpAll_app (dpAll_app (dpAll_take k St5.dps) (.cons (dp_mono (ms_same ((S13.trans S4).trans S5)) _ _ hv) .nil)) (dpAll_drop (k + 1) St5.dps)
end
structure Jr (j : Addr) (H G : Hp) : Prop where
  jar : JarAt G j
  fr : Fr j H G
theorem Jr.same {j : Addr} {H G G' : Hp} (h : Jr j H G) (e : Same G G') : Jr j H G' := ⟨h.jar.same e, h.fr.trans (Frm.of e)⟩
theorem Jr.draw {j : Addr} {H G G' : Hp} (h : Jr j H G) (hJ : JarAt G' j) (hF : Fr j G G') : Jr j H G' := ⟨hJ, h.fr.trans hF⟩
def sp__law_no_rows (K : PySem.W.Frag) : Sp := fun vs H Q _ => ∃ j : Addr, vs = [.ref j] ∧ JarAt H j ∧ ∀ v d H', JarAt H' j → Fr j H H' → Dp K (ms [j] H') v d → NoR d → Q v H'
theorem ok__law_no_rows (Y : Fx K mg) : FnOk P w K mg base CX0 2 Y.a__law_no_rows Y.fd__law_no_rows ["_law_well_here"] (sp__law_no_rows K) := by
  refine Y.F__law_no_rows.ok sc__law_no_rows (fun vs H Q E h => ?_) (fun cdv A outer st H vs Q E hr h => ?_)
  · obtain ⟨j, rfl, _⟩ := h
    rfl
  · obtain ⟨j, rfl, hJ, q⟩ := h
    refine ⟨_, b__law_no_rows Y (ok__law_draw Y) hr, ?_⟩
    show t__law_no_rows K _ _ [some (.ref j), none] H
    unfold t__law_no_rows
    have St : Jr j H H := ⟨hJ, Frm.refl H⟩
    rw [show ("ab" : Str) = S [97, 98] from rfl, show ("a\n" : Str) = S [97, 10] from rfl, show ("a" : Str) = S [97] from rfl, show ("b" : Str) = S [98] from rfl, show ("x" : Str) = S [120] from rfl, show ("y" : Str) = S [121] from rfl, show ("" : Str) = S [] from rfl]
    walk_at "rd"
    refine ⟨by show 0 ≤ sizeLine; decide, fun t1 hq1 => ?_⟩
    obtain ⟨_, SS, MM, D1, _⟩ := mkM_L (K := K) (us := ([] : List V)) (ds := ([] : List PyData)) St.jar hq1 .nil
    replace St := St.same SS
    generalize upd H t1 (.lst ([] : List V)) = B1 at SS MM D1 St ⊢
    clear MM SS
    walk_at "rd"
    refine ⟨by show 1 ≤ sizeLine; decide, fun t2 hq2 => ?_⟩
    obtain ⟨_, SS, MM, D2⟩ := mkM_T (K := K) (us := [V.str (S [97])]) (ds := [PyData.str (S [97])]) St.jar hq2 (.cons (.str _) .nil)
    replace St := St.same SS
    generalize upd B1 t2 (.tup [V.str (S [97])]) = B2 at SS MM D2 St ⊢
    replace D1 := dp_mono MM _ _ D1
    clear MM SS
    walk_at "rd"
    refine ⟨by show 1 ≤ sizeLine; decide, fun t3 hq3 => ?_⟩
    obtain ⟨_, SS, MM, D3⟩ := mkM_T (K := K) (us := [V.ref t2]) (ds := [PyData.tuple [PyData.str (S [97])]]) St.jar hq3 (.cons D2 .nil)
    replace St := St.same SS
    generalize upd B2 t3 (.tup [V.ref t2]) = B3 at SS MM D3 St ⊢
    clear D2
    replace D1 := dp_mono MM _ _ D1
    clear MM SS
    walk_at "rd"
    refine ⟨by show 2 ≤ sizeLine; decide, fun t4 hq4 => ?_⟩
    obtain ⟨_, SS, MM, D4⟩ := mkM_T (K := K) (us := [V.str (S [98]), .str (S [120])]) (ds := [PyData.str (S [98]), .str (S [120])]) St.jar hq4 (.cons (.str _) (.cons (.str _) .nil))
    replace St := St.same SS
    generalize upd B3 t4 (.tup [V.str (S [98]), .str (S [120])]) = B4 at SS MM D4 St ⊢
    replace D1 := dp_mono MM _ _ D1
    replace D3 := dp_mono MM _ _ D3
    clear MM SS
    walk_at "rd"
    refine ⟨by show 2 ≤ sizeLine; decide, fun t5 hq5 => ?_⟩
    obtain ⟨_, SS, MM, D5⟩ := mkM_T (K := K) (us := [V.str (S [97]), .str (S [120])]) (ds := [PyData.str (S [97]), .str (S [120])]) St.jar hq5 (.cons (.str _) (.cons (.str _) .nil))
    replace St := St.same SS
    generalize upd B4 t5 (.tup [V.str (S [97]), .str (S [120])]) = B5 at SS MM D5 St ⊢
    replace D1 := dp_mono MM _ _ D1
    replace D3 := dp_mono MM _ _ D3
    replace D4 := dp_mono MM _ _ D4
    clear MM SS
    walk_at "rd"
    refine ⟨by show 2 ≤ sizeLine; decide, fun t6 hq6 => ?_⟩
    obtain ⟨_, SS, MM, D6⟩ := mkM_T (K := K) (us := [V.ref t4, .ref t5]) (ds := [PyData.tuple [PyData.str (S [98]), .str (S [120])], .tuple [PyData.str (S [97]), .str (S [120])]]) St.jar hq6 (.cons D4 (.cons D5 .nil))
    replace St := St.same SS
    generalize upd B5 t6 (.tup [V.ref t4, .ref t5]) = B6 at SS MM D6 St ⊢
    clear D4 D5
    replace D1 := dp_mono MM _ _ D1
    replace D3 := dp_mono MM _ _ D3
    clear MM SS
    walk_at "rd"
    refine ⟨by show 2 ≤ sizeLine; decide, fun t7 hq7 => ?_⟩
    obtain ⟨_, SS, MM, D7⟩ := mkM_T (K := K) (us := [V.str (S [97]), .str (S [120])]) (ds := [PyData.str (S [97]), .str (S [120])]) St.jar hq7 (.cons (.str _) (.cons (.str _) .nil))
    replace St := St.same SS
    generalize upd B6 t7 (.tup [V.str (S [97]), .str (S [120])]) = B7 at SS MM D7 St ⊢
    replace D1 := dp_mono MM _ _ D1
    replace D3 := dp_mono MM _ _ D3
    replace D6 := dp_mono MM _ _ D6
    clear MM SS
    walk_at "rd"
    refine ⟨by show 2 ≤ sizeLine; decide, fun t8 hq8 => ?_⟩
    obtain ⟨_, SS, MM, D8⟩ := mkM_T (K := K) (us := [V.str (S [97]), .str (S [121])]) (ds := [PyData.str (S [97]), .str (S [121])]) St.jar hq8 (.cons (.str _) (.cons (.str _) .nil))
    replace St := St.same SS
    generalize upd B7 t8 (.tup [V.str (S [97]), .str (S [121])]) = B8 at SS MM D8 St ⊢
    replace D1 := dp_mono MM _ _ D1
    replace D3 := dp_mono MM _ _ D3
    replace D6 := dp_mono MM _ _ D6
    replace D7 := dp_mono MM _ _ D7
    clear MM SS
    walk_at "rd"
    refine ⟨by show 2 ≤ sizeLine; decide, fun t9 hq9 => ?_⟩
    obtain ⟨_, SS, MM, D9⟩ := mkM_T (K := K) (us := [V.ref t7, .ref t8]) (ds := [PyData.tuple [PyData.str (S [97]), .str (S [120])], .tuple [PyData.str (S [97]), .str (S [121])]]) St.jar hq9 (.cons D7 (.cons D8 .nil))
    replace St := St.same SS
    generalize upd B8 t9 (.tup [V.ref t7, .ref t8]) = B9 at SS MM D9 St ⊢
    clear D7 D8
    replace D1 := dp_mono MM _ _ D1
    replace D3 := dp_mono MM _ _ D3
    replace D6 := dp_mono MM _ _ D6
    clear MM SS
    walk_at "rd"
    refine ⟨by show 2 ≤ sizeLine; decide, fun t10 hq10 => ?_⟩
    obtain ⟨_, SS, MM, D10⟩ := mkM_T (K := K) (us := [V.str (S [97]), .int 1]) (ds := [PyData.str (S [97]), .int 1]) St.jar hq10 (.cons (.str _) (.cons (.int _) .nil))
    replace St := St.same SS
    generalize upd B9 t10 (.tup [V.str (S [97]), .int 1]) = B10 at SS MM D10 St ⊢
    replace D1 := dp_mono MM _ _ D1
    replace D3 := dp_mono MM _ _ D3
    replace D6 := dp_mono MM _ _ D6
    replace D9 := dp_mono MM _ _ D9
    clear MM SS
    walk_at "rd"
    refine ⟨by show 1 ≤ sizeLine; decide, fun t11 hq11 => ?_⟩
    obtain ⟨_, SS, MM, D11⟩ := mkM_T (K := K) (us := [V.ref t10]) (ds := [PyData.tuple [PyData.str (S [97]), .int 1]]) St.jar hq11 (.cons D10 .nil)
    replace St := St.same SS
    generalize upd B10 t11 (.tup [V.ref t10]) = B11 at SS MM D11 St ⊢
    clear D10
    replace D1 := dp_mono MM _ _ D1
    replace D3 := dp_mono MM _ _ D3
    replace D6 := dp_mono MM _ _ D6
    replace D9 := dp_mono MM _ _ D9
    clear MM SS
    walk_at "rd"
    refine ⟨by show 2 ≤ sizeLine; decide, fun t12 hq12 => ?_⟩
    obtain ⟨_, SS, MM, D12⟩ := mkM_T (K := K) (us := [V.int 1, .str (S [120])]) (ds := [PyData.int 1, .str (S [120])]) St.jar hq12 (.cons (.int _) (.cons (.str _) .nil))
    replace St := St.same SS
    generalize upd B11 t12 (.tup [V.int 1, .str (S [120])]) = B12 at SS MM D12 St ⊢
    replace D1 := dp_mono MM _ _ D1
    replace D3 := dp_mono MM _ _ D3
    replace D6 := dp_mono MM _ _ D6
    replace D9 := dp_mono MM _ _ D9
    replace D11 := dp_mono MM _ _ D11
    clear MM SS
    walk_at "rd"
    refine ⟨by show 1 ≤ sizeLine; decide, fun t13 hq13 => ?_⟩
    obtain ⟨_, SS, MM, D13⟩ := mkM_T (K := K) (us := [V.ref t12]) (ds := [PyData.tuple [PyData.int 1, .str (S [120])]]) St.jar hq13 (.cons D12 .nil)
    replace St := St.same SS
    generalize upd B12 t13 (.tup [V.ref t12]) = B13 at SS MM D13 St ⊢
    clear D12
    replace D1 := dp_mono MM _ _ D1
    replace D3 := dp_mono MM _ _ D3
    replace D6 := dp_mono MM _ _ D6
    replace D9 := dp_mono MM _ _ D9
    replace D11 := dp_mono MM _ _ D11
    clear MM SS
    walk_at "rd"
    refine ⟨by show 7 ≤ sizeLine; decide, fun t14 hq14 => ?_⟩
    have Ax : DpAll K (ms [j] B13) [V.ref t1, .non, .ref t3, .ref t6, .ref t9, .ref t11, .ref t13] nr1 := .cons D1 (.cons .non (.cons D3 (.cons D6 (.cons D9 (.cons D11 (.cons D13 .nil))))))
    obtain ⟨_, SS, MM, _⟩ := mkM_L (K := K) St.jar hq14 Ax
    have Ex : upd B13 t14 (.lst [V.ref t1, .non, .ref t3, .ref t6, .ref t9, .ref t11, .ref t13]) t14 = some (.lst [V.ref t1, .non, .ref t3, .ref t6, .ref t9, .ref t11, .ref t13]) := upd_same
    replace St := St.same SS
    replace Ax := dpAll_mono MM _ _ Ax
    generalize upd B13 t14 (.lst [V.ref t1, .non, .ref t3, .ref t6, .ref t9, .ref t11, .ref t13]) = B14 at SS MM Ax Ex St ⊢
    clear D1 D3 D6 D9 D11 D13
    generalize hux : [V.ref t1, .non, .ref t3, .ref t6, .ref t9, .ref t11, .ref t13] = usx at Ax Ex
    have ulx : usx.length = 7 := by rw [← hux]; rfl
    clear hux MM SS
    walk_at "rd"
    walk_at "rd"
    refine ⟨by show 2 ≤ sizeLine; decide, fun t15 hq15 => ?_⟩
    obtain ⟨_, SS, MM, D15⟩ := mkM_T (K := K) (us := [V.str (S [97, 10]), .str (S [120])]) (ds := [PyData.str (S [97, 10]), .str (S [120])]) St.jar hq15 (.cons (.str _) (.cons (.str _) .nil))
    replace St := St.same SS
    generalize upd B14 t15 (.tup [V.str (S [97, 10]), .str (S [120])]) = B15 at SS MM D15 St ⊢
    replace Ax := dpAll_mono MM _ _ Ax
    replace Ex := SS _ _ Ex
    clear MM SS
    walk_at "rd"
    refine ⟨by show 1 ≤ sizeLine; decide, fun t16 hq16 => ?_⟩
    obtain ⟨_, SS, MM, D16⟩ := mkM_T (K := K) (us := [V.ref t15]) (ds := [PyData.tuple [PyData.str (S [97, 10]), .str (S [120])]]) St.jar hq16 (.cons D15 .nil)
    replace St := St.same SS
    generalize upd B15 t16 (.tup [V.ref t15]) = B16 at SS MM D16 St ⊢
    clear D15
    replace Ax := dpAll_mono MM _ _ Ax
    replace Ex := SS _ _ Ex
    clear MM SS
    walk_at "rd"
    refine ⟨by show 2 ≤ sizeLine; decide, fun t17 hq17 => ?_⟩
    obtain ⟨_, SS, MM, D17, _⟩ := mkM_L (K := K) (us := [V.str (S [97]), .str (S [120])]) (ds := [PyData.str (S [97]), .str (S [120])]) St.jar hq17 (.cons (.str _) (.cons (.str _) .nil))
    replace St := St.same SS
    generalize upd B16 t17 (.lst [V.str (S [97]), .str (S [120])]) = B17 at SS MM D17 St ⊢
    replace D16 := dp_mono MM _ _ D16
    replace Ax := dpAll_mono MM _ _ Ax
    replace Ex := SS _ _ Ex
    clear MM SS
    walk_at "rd"
    refine ⟨by show 1 ≤ sizeLine; decide, fun t18 hq18 => ?_⟩
    obtain ⟨_, SS, MM, D18⟩ := mkM_T (K := K) (us := [V.ref t17]) (ds := [PyData.list [PyData.str (S [97]), .str (S [120])]]) St.jar hq18 (.cons D17 .nil)
    replace St := St.same SS
    generalize upd B17 t18 (.tup [V.ref t17]) = B18 at SS MM D18 St ⊢
    clear D17
    replace D16 := dp_mono MM _ _ D16
    replace Ax := dpAll_mono MM _ _ Ax
    replace Ex := SS _ _ Ex
    clear MM SS
    walk_at "rd"
    refine ⟨by show 1 ≤ sizeLine; decide, fun t19 hq19 => ?_⟩
    obtain ⟨_, SS, MM, D19⟩ := mkM_T (K := K) (us := [V.str (S [97, 98])]) (ds := [PyData.str (S [97, 98])]) St.jar hq19 (.cons (.str _) .nil)
    replace St := St.same SS
    generalize upd B18 t19 (.tup [V.str (S [97, 98])]) = B19 at SS MM D19 St ⊢
    replace D16 := dp_mono MM _ _ D16
    replace D18 := dp_mono MM _ _ D18
    replace Ax := dpAll_mono MM _ _ Ax
    replace Ex := SS _ _ Ex
    clear MM SS
    walk_at "rd"
    refine ⟨by show 3 ≤ sizeLine; decide, fun t20 hq20 => ?_⟩
    obtain ⟨_, SS, MM, D20⟩ := mkM_T (K := K) (us := [V.str (S [97]), .str (S [120]), .str (S [121])]) (ds := [PyData.str (S [97]), .str (S [120]), .str (S [121])]) St.jar hq20 (.cons (.str _) (.cons (.str _) (.cons (.str _) .nil)))
    replace St := St.same SS
    generalize upd B19 t20 (.tup [V.str (S [97]), .str (S [120]), .str (S [121])]) = B20 at SS MM D20 St ⊢
    replace D16 := dp_mono MM _ _ D16
    replace D18 := dp_mono MM _ _ D18
    replace D19 := dp_mono MM _ _ D19
    replace Ax := dpAll_mono MM _ _ Ax
    replace Ex := SS _ _ Ex
    clear MM SS
    walk_at "rd"
    refine ⟨by show 1 ≤ sizeLine; decide, fun t21 hq21 => ?_⟩
    obtain ⟨_, SS, MM, D21⟩ := mkM_T (K := K) (us := [V.ref t20]) (ds := [PyData.tuple [PyData.str (S [97]), .str (S [120]), .str (S [121])]]) St.jar hq21 (.cons D20 .nil)
    replace St := St.same SS
    generalize upd B20 t21 (.tup [V.ref t20]) = B21 at SS MM D21 St ⊢
    clear D20
    replace D16 := dp_mono MM _ _ D16
    replace D18 := dp_mono MM _ _ D18
    replace D19 := dp_mono MM _ _ D19
    replace Ax := dpAll_mono MM _ _ Ax
    replace Ex := SS _ _ Ex
    clear MM SS
    walk_at "rd"
    refine x_rep (n := 10000) (by omega) (by decide) fun AA hAT hAl => ?_
    walk_at "rd"
    refine ⟨by show 2 ≤ sizeLine; decide, fun t22 hq22 => ?_⟩
    obtain ⟨_, SS, MM, D22⟩ := mkM_T (K := K) (us := [V.str (S AA), .str (S [])]) (ds := [PyData.str (S AA), .str (S [])]) St.jar hq22 (.cons (.str _) (.cons (.str _) .nil))
    replace St := St.same SS
    generalize upd B21 t22 (.tup [V.str (S AA), .str (S [])]) = B22 at SS MM D22 St ⊢
    replace D16 := dp_mono MM _ _ D16
    replace D18 := dp_mono MM _ _ D18
    replace D19 := dp_mono MM _ _ D19
    replace D21 := dp_mono MM _ _ D21
    replace Ax := dpAll_mono MM _ _ Ax
    replace Ex := SS _ _ Ex
    clear MM SS
    walk_at "rd"
    refine ⟨by show 1 ≤ sizeLine; decide, fun t23 hq23 => ?_⟩
    obtain ⟨_, SS, MM, D23⟩ := mkM_T (K := K) (us := [V.ref t22]) (ds := [PyData.tuple [PyData.str (S AA), .str (S [])]]) St.jar hq23 (.cons D22 .nil)
    replace St := St.same SS
    generalize upd B22 t23 (.tup [V.ref t22]) = B23 at SS MM D23 St ⊢
    clear D22
    replace D16 := dp_mono MM _ _ D16
    replace D18 := dp_mono MM _ _ D18
    replace D19 := dp_mono MM _ _ D19
    replace D21 := dp_mono MM _ _ D21
    replace Ax := dpAll_mono MM _ _ Ax
    replace Ex := SS _ _ Ex
    clear MM SS
    walk_at "rd"
    refine x_rep (n := 10000) (by omega) (by decide) fun BB hBT hBl => ?_
    walk_at "rd"
    refine ⟨by show 2 ≤ sizeLine; decide, fun t24 hq24 => ?_⟩
    obtain ⟨_, SS, MM, D24⟩ := mkM_T (K := K) (us := [V.str (S []), .str (S BB)]) (ds := [PyData.str (S []), .str (S BB)]) St.jar hq24 (.cons (.str _) (.cons (.str _) .nil))
    replace St := St.same SS
    generalize upd B23 t24 (.tup [V.str (S []), .str (S BB)]) = B24 at SS MM D24 St ⊢
    replace D16 := dp_mono MM _ _ D16
    replace D18 := dp_mono MM _ _ D18
    replace D19 := dp_mono MM _ _ D19
    replace D21 := dp_mono MM _ _ D21
    replace D23 := dp_mono MM _ _ D23
    replace Ax := dpAll_mono MM _ _ Ax
    replace Ex := SS _ _ Ex
    clear MM SS
    walk_at "rd"
    refine ⟨by show 1 ≤ sizeLine; decide, fun t25 hq25 => ?_⟩
    obtain ⟨_, SS, MM, D25⟩ := mkM_T (K := K) (us := [V.ref t24]) (ds := [PyData.tuple [PyData.str (S []), .str (S BB)]]) St.jar hq25 (.cons D24 .nil)
    replace St := St.same SS
    generalize upd B24 t25 (.tup [V.ref t24]) = B25 at SS MM D25 St ⊢
    clear D24
    replace D16 := dp_mono MM _ _ D16
    replace D18 := dp_mono MM _ _ D18
    replace D19 := dp_mono MM _ _ D19
    replace D21 := dp_mono MM _ _ D21
    replace D23 := dp_mono MM _ _ D23
    replace Ax := dpAll_mono MM _ _ Ax
    replace Ex := SS _ _ Ex
    clear MM SS
    walk_at "rd"
    refine ⟨by show 7 ≤ sizeLine; decide, fun t26 hq26 => ?_⟩
    have Ay : DpAll K (ms [j] B25) [V.ref t16, .ref t18, .ref t19, .ref t21, .int 3, .ref t23, .ref t25] (nr2 AA BB) := .cons D16 (.cons D18 (.cons D19 (.cons D21 (.cons (.int _) (.cons D23 (.cons D25 .nil))))))
    obtain ⟨_, SS, MM, _⟩ := mkM_L (K := K) St.jar hq26 Ay
    have Ey : upd B25 t26 (.lst [V.ref t16, .ref t18, .ref t19, .ref t21, .int 3, .ref t23, .ref t25]) t26 = some (.lst [V.ref t16, .ref t18, .ref t19, .ref t21, .int 3, .ref t23, .ref t25]) := upd_same
    replace St := St.same SS
    replace Ay := dpAll_mono MM _ _ Ay
    generalize upd B25 t26 (.lst [V.ref t16, .ref t18, .ref t19, .ref t21, .int 3, .ref t23, .ref t25]) = B26 at SS MM Ay Ey St ⊢
    replace Ax := dpAll_mono MM _ _ Ax
    replace Ex := SS _ _ Ex
    clear D16 D18 D19 D21 D23 D25
    generalize huy : [V.ref t16, .ref t18, .ref t19, .ref t21, .int 3, .ref t23, .ref t25] = usy at Ay Ey
    have uly : usy.length = 7 := by rw [← huy]; rfl
    clear huy MM SS
    walk_at "rd"
    refine a_ll Ex Ey (by rw [ulx, uly]; decide) fun t27 hq27 => ?_
    have A := dpAll_app Ax Ay
    obtain ⟨_, SS, MM, _, Q6⟩ := mkM_L (K := K) St.jar hq27 A
    replace St := St.same SS
    replace A := dpAll_mono MM _ _ A
    generalize upd B26 t27 (.lst (usx ++ usy)) = B27 at SS MM A Q6 St ⊢
    clear Ax Ay Ex Ey MM SS
    walk_at "rd"
    refine ⟨j, 14, rfl, St.jar, by decide, by decide, fun rr B28 rr0 rr1 hJ2 hF2 => ?_⟩
    have mm := ms1_fr hF2
    replace St := St.draw hJ2 hF2
    clear hJ2 hF2
    replace A := dpAll_mono mm _ _ A
    replace Q6 := mm.seq Q6
    obtain ⟨nn, rfl, hn⟩ : ∃ nn : Nat, rr = nn ∧ nn < 14 := ⟨rr.toNat, by omega, by omega⟩
    obtain ⟨v, ev, dv⟩ := dpAll_get A (i := nn) hn
    have zb : ∀ d ∈ nr1 ++ nr2 AA BB, NoR d := fun d hd => (List.mem_append.mp hd).elim (nr1_no d) (nr2_no hAl hBl d)
    exact ix_L (ms_le.seq Q6) (atI_nat ev) (q v _ _ St.jar St.fr dv (zb _ (List.getElem_mem (show nn < (nr1 ++ nr2 AA BB).length from hn))))
end
end My

set_option Elab.async false
set_option linter.all false
set_option maxRecDepth 100000
set_option maxHeartbeats 1000000
namespace My
open PySem PySem.Spec PyProof.Rows L2
local macro_rules | `(tactic| walk_at "len") => `(tactic| first | assumption | omega | decide | (simp only [List.length_append, List.length_take, List.length_drop, List.length_cons, List.length_nil, List.length_replicate]; omega))
local macro_rules | `(tactic| walk_at "side") => `(tactic| first | assumption | exact Nat.zero_le _ | decide | omega)
local macro_rules | `(tactic| walk_at "rd1") => `(tactic| first
  | with_reducible refine s_seq ?_
  | with_reducible refine x_gsub ?_
  | with_reducible refine s_asg ?_
  | ((with_reducible refine s_gn ?_); dsimp only [List.set])
  | ((with_reducible refine x_var (v := ?rdv) ?rdhv ?_); (case rdhv => rfl))
  | with_reducible refine x_c ?_
  | with_reducible refine x_op ?_
  | with_reducible refine x_cons ?_
  | with_reducible refine x_nil ?_
  | with_reducible refine x_cb ?_
  | with_reducible refine x_call ?_
  | with_reducible refine x_callS ?_
  | with_reducible refine x_revT ?_
  | with_reducible refine x_dget ?_
  | with_reducible refine x_din ?_
  | with_reducible refine x_dnotin ?_
  | with_reducible refine s_dput ?_
  | with_reducible refine x_dnew ?_
  | with_reducible refine s_try ?_
  | with_reducible refine s_raise ?_
  | with_reducible refine s_if ?_
  | with_reducible refine s_ret ?_
  | with_reducible refine s_retN ?_
  | with_reducible refine s_next ?_
  | with_reducible refine s_brk ?_
  | with_reducible refine s_cont ?_
  | with_reducible refine s_drop ?_
  | with_reducible refine s_par ?_
  | with_reducible refine s_par3 ?_
  | ((with_reducible refine s_p2 ?_); dsimp only [List.set])
  | ((with_reducible refine s_p3 ?_); dsimp only [List.set])
  | with_reducible refine f_r1 ?_
  | with_reducible refine f_r2 ?_
  | with_reducible refine f_l ?_
  | with_reducible refine f_t ?_
  | with_reducible refine f_s ?_
  | with_reducible refine c_r1 ?_
  | with_reducible refine c_r2 ?_
  | with_reducible refine c_l ?_
  | with_reducible refine c_t ?_
  | with_reducible refine c_s ?_
  | with_reducible refine x_tst ?_
  | with_reducible refine x_tru ?_
  | with_reducible refine x_truB ?_
  | with_reducible refine x_bl2 ?_
  | with_reducible refine x_int ?_
  | with_reducible refine x_str ?_
  | with_reducible refine x_not ?_
  | with_reducible refine x_and ?_
  | with_reducible refine x_or ?_
  | with_reducible refine x_andV ?_
  | with_reducible refine x_orV ?_
  | with_reducible refine x_notV ?_
  | with_reducible refine x_if ?_
  | with_reducible refine x_yes ?_
  | with_reducible refine x_un ?_
  | with_reducible refine x_tup ?_
  | with_reducible refine x_lst ?_
  | with_reducible refine x_callK ?_
  | with_reducible refine x_callK0 ?_
  | with_reducible refine x_bm ?_
  | with_reducible refine x_bm0 ?_
  | with_reducible refine x_tyS ?_
  | with_reducible refine x_sl ?_
  | with_reducible refine x_nopart ?_
  | with_reducible refine x_part ?_
  | with_reducible refine x_fmt0 ?_
  | with_reducible refine x_gc ?_
  | with_reducible refine x_gz ?_
  | with_reducible refine x_ckw ?_
  | with_reducible refine x_fmt ?_
  | with_reducible refine x_chain ?_
  | with_reducible refine a_ii ?_
  | ((with_reducible refine sl_to ?rda ?rdb ?_); (case rda => walk_at "len"); (case rdb => walk_at "len"))
  | ((with_reducible refine sl_from ?rda ?rdb ?_); (case rda => walk_at "len"); (case rdb => walk_at "len"))
  | ((with_reducible refine sl_mid ?rda ?rdb ?rdc ?_); (case rda => walk_at "len"); (case rdb => walk_at "len"); (case rdc => walk_at "len"))
  | ((with_reducible refine a_SS ?rda ?_); (case rda => walk_at "len"))
  | ((with_reducible refine ln_S ?rda ?_); (case rda => walk_at "len"))
  | with_reducible refine e_SS ?_
  | with_reducible refine ne_SS ?_
  | with_reducible refine s_ii ?_
  | ((with_reducible refine md_ii ?rdc ?_); (case rdc => first | decide | assumption | omega))
  | with_reducible refine n_i ?_
  | with_reducible refine e_ii ?_
  | with_reducible refine e_bb ?_
  | with_reducible refine ne_ii ?_
  | with_reducible refine ne_bb ?_
  | with_reducible refine lt_ii ?_
  | with_reducible refine lt_ss ?_
  | with_reducible refine le_ii ?_
  | with_reducible refine le_ss ?_
  | with_reducible refine gt_ii ?_
  | with_reducible refine gt_ss ?_
  | with_reducible refine ge_ii ?_
  | with_reducible refine e_ss ?_
  | with_reducible refine ne_ss ?_
  | with_reducible refine is_N ?_
  | with_reducible refine is_T ?_
  | with_reducible refine is_B ?_
  | with_reducible refine isn_N ?_
  | with_reducible refine isn_T ?_
  | with_reducible refine isn_B ?_
  | with_reducible refine in_s ?_
  | with_reducible refine nin_s ?_
  | with_reducible refine i_i ?_
  | with_reducible refine i_b ?_
  | with_reducible refine ab_i ?_
  | with_reducible refine mx_ii ?_
  | with_reducible refine mn_ii ?_
  | with_reducible refine ty_N ?_
  | with_reducible refine ty_B ?_
  | with_reducible refine ty_I ?_
  | with_reducible refine ty_S ?_
  | with_reducible refine ma_s ?_
  | with_reducible refine mp_s ?_
  | with_reducible refine mdg_s ?_
  | with_reducible refine mf_s ?_
  | with_reducible refine iteT ?_
  | with_reducible refine iteF ?_
  | with_reducible refine iteNt ?_
  | with_reducible refine iteNf ?_
  | with_reducible refine iteTd (by decide) ?_
  | with_reducible refine iteFd (by decide) ?_
  | with_reducible refine iteNd (by decide) ?_
  | with_reducible refine iteNdF (by decide) ?_
  | ((with_reducible refine iteFd ?rdn ?_); (case rdn => (intro rdz; cases rdz; done)))
  | ((with_reducible refine iteNdF ?rdn ?_); (case rdn => (intro rdz; cases rdz; done))))
local macro_rules | `(tactic| walk_at "rd") => `(tactic| (repeat walk_at "rd1"))
section
variable {P : Program} {w : World} {K : PySem.W.Frag} {mg : Str → Option Value} {base : Heap}
theorem inv_non {G : Hp} {x : V} (h : Dp K G x (letD .non)) : ∃ a, x = .ref a ∧ SqT K G a [.str (S noneL)] := by
  cases h with
  | tup hs ha =>
    cases ha with
    | cons g0 ha =>
      cases g0
      cases ha
      exact ⟨_, rfl, hs⟩
theorem inv_part {G : Hp} {x : V} {n : Nat} {cs : List Ch} (h : Dp K G x (letD (.part n cs))) : ∃ a y, x = .ref a ∧ SqT K G a [.str (S partL), .int n, y] ∧ Dp K G y (chsD cs) := by
  cases h with
  | tup hs ha =>
    cases ha with
    | cons g0 ha =>
      cases g0
      cases ha with
      | cons g1 ha =>
        cases g1
        cases ha with
        | cons g2 ha =>
          cases ha
          exact ⟨_, _, rfl, hs, g2⟩
theorem inv_piece {G : Hp} {x : V} {n i m : Nat} {cs : List Ch} (h : Dp K G x (letD (.piece n i m cs))) : ∃ a y, x = .ref a ∧ SqT K G a [.str (S pieceL), .int n, .int i, .int m, y] ∧ Dp K G y (chsD cs) := by
  cases h with
  | tup hs ha =>
    cases ha with
    | cons g0 ha =>
      cases g0
      cases ha with
      | cons g1 ha =>
        cases g1
        cases ha with
        | cons g2 ha =>
          cases g2
          cases ha with
          | cons g3 ha =>
            cases g3
            cases ha with
            | cons g4 ha =>
              cases ha
              exact ⟨_, _, rfl, hs, g4⟩
def sp__law_bent (K : PySem.W.Frag) : Sp := fun vs H Q _ => ∃ (j : Addr) (x : V) (L : Lt), vs = [.ref j, x] ∧ JarAt H j ∧ Dp K (ms [j] H) x (letD L) ∧ LtG L ∧ ∀ v d H', JarAt H' j → Fr j H H' → Dp K (ms [j] H') v d → BadL d → Q v H'
theorem ok__law_bent (Y : Fx K mg) : FnOk P w K mg base CX0 3 Y.a__law_bent Y.fd__law_bent ["_law_well_here", "_law_letter_here"] (sp__law_bent K) := by
  refine Y.F__law_bent.ok sc__law_bent (fun vs H Q E h => ?_) (fun cdv A outer st H vs Q E hr h => ?_)
  · obtain ⟨j, x, L, rfl, _⟩ := h
    rfl
  · obtain ⟨j, x, L, rfl, hJ, hx, hL, q⟩ := h
    refine ⟨_, b__law_bent Y (ok__law_draw Y) (ok__law_no_rows Y) hr, ?_⟩
    show t__law_bent K _ _ _ [some (.ref j), some x, none, none, none] H
    unfold t__law_bent
    rw [show ("none" : Str) = S noneL from rfl, show ("None" : Str) = S [78, 111, 110, 101] from rfl, show ("part " : Str) = S [112, 97, 114, 116, 32] from rfl, show ("Piece" : Str) = S [80, 105, 101, 99, 101] from rfl, show ("part" : Str) = S partL from rfl, show ("piece" : Str) = S pieceL from rfl, show ("1" : Str) = S [49] from rfl, show ("0" : Str) = S [48] from rfl, show ("a" : Str) = S [97] from rfl, show ("x" : Str) = S [120] from rfl, show ("b" : Str) = S [98] from rfl]
    generalize hR : (tRet (tOp (rADD K) (tOp (rADD K) (tSl (rSL K) (tVar 1) tNoPart (tPart (tVar 3))) (tTup (tCons (tVar 4) tNil))) (tSl (rSL K) (tVar 1) (tPart (tOp (rADD K) (tVar 3) (tC (.int 1)))) tNoPart)) : TS) = R
    have p108 : (10 : Int) ^ (8 : Int).toNat = 100000000 := by decide
    have p30 : (0 : Int) < (10 : Int) ^ (30 : Int).toNat := by decide
    have p31 : (10 : Int) ^ (30 : Int).toNat < 2 ^ 120 := by decide
    cases L with
    | non =>
      obtain ⟨a, rfl, hs⟩ := inv_non hx
      have St : Jr j H H := ⟨hJ, Frm.refl H⟩
      walk_at "rd"
      refine ix_T (same_sqt ms_le hs) (by rfl) ?_
      walk_at "rd"
      refine ⟨by show 2 ≤ sizeLine; decide, fun t1 hq1 => ?_⟩
      obtain ⟨_, SS, MM, D1⟩ := mkM_T (K := K) (us := [V.str (S noneL), .int 1]) (ds := [PyData.str (S noneL), .int 1]) St.jar hq1 (.cons (.str _) (.cons (.int _) .nil))
      replace St := St.same SS
      generalize upd H t1 (.tup [V.str (S noneL), .int 1]) = B1 at SS MM D1 St ⊢
      clear MM SS
      walk_at "rd"
      refine ⟨by show 1 ≤ sizeLine; decide, fun t2 hq2 => ?_⟩
      obtain ⟨_, SS, MM, D2⟩ := mkM_T (K := K) (us := [V.str (S [78, 111, 110, 101])]) (ds := [PyData.str (S [78, 111, 110, 101])]) St.jar hq2 (.cons (.str _) .nil)
      replace St := St.same SS
      generalize upd B1 t2 (.tup [V.str (S [78, 111, 110, 101])]) = B2 at SS MM D2 St ⊢
      replace D1 := dp_mono MM _ _ D1
      clear MM SS
      walk_at "rd"
      refine ⟨by show 1 ≤ sizeLine; decide, fun t3 hq3 => ?_⟩
      obtain ⟨_, SS, MM, D3, _⟩ := mkM_L (K := K) (us := [V.str (S noneL)]) (ds := [PyData.str (S noneL)]) St.jar hq3 (.cons (.str _) .nil)
      replace St := St.same SS
      generalize upd B2 t3 (.lst [V.str (S noneL)]) = B3 at SS MM D3 St ⊢
      replace D1 := dp_mono MM _ _ D1
      replace D2 := dp_mono MM _ _ D2
      clear MM SS
      walk_at "rd"
      refine ⟨by show 0 ≤ sizeLine; decide, fun t4 hq4 => ?_⟩
      obtain ⟨_, SS, MM, D4⟩ := mkM_T (K := K) (us := ([] : List V)) (ds := ([] : List PyData)) St.jar hq4 .nil
      replace St := St.same SS
      generalize upd B3 t4 (.tup ([] : List V)) = B4 at SS MM D4 St ⊢
      replace D1 := dp_mono MM _ _ D1
      replace D2 := dp_mono MM _ _ D2
      replace D3 := dp_mono MM _ _ D3
      clear MM SS
      walk_at "rd"
      refine ⟨by show 2 ≤ sizeLine; decide, fun t5 hq5 => ?_⟩
      obtain ⟨_, SS, MM, D5⟩ := mkM_T (K := K) (us := [V.str (S noneL), .str (S noneL)]) (ds := [PyData.str (S noneL), .str (S noneL)]) St.jar hq5 (.cons (.str _) (.cons (.str _) .nil))
      replace St := St.same SS
      generalize upd B4 t5 (.tup [V.str (S noneL), .str (S noneL)]) = B5 at SS MM D5 St ⊢
      replace D1 := dp_mono MM _ _ D1
      replace D2 := dp_mono MM _ _ D2
      replace D3 := dp_mono MM _ _ D3
      replace D4 := dp_mono MM _ _ D4
      clear MM SS
      walk_at "rd"
      refine ⟨by show 1 ≤ sizeLine; decide, fun t6 hq6 => ?_⟩
      obtain ⟨_, SS, MM, D6⟩ := mkM_T (K := K) (us := [V.non]) (ds := [PyData.none]) St.jar hq6 (.cons .non .nil)
      replace St := St.same SS
      generalize upd B5 t6 (.tup [V.non]) = B6 at SS MM D6 St ⊢
      replace D1 := dp_mono MM _ _ D1
      replace D2 := dp_mono MM _ _ D2
      replace D3 := dp_mono MM _ _ D3
      replace D4 := dp_mono MM _ _ D4
      replace D5 := dp_mono MM _ _ D5
      clear MM SS
      walk_at "rd"
      refine ⟨by show 1 ≤ sizeLine; decide, fun t7 hq7 => ?_⟩
      obtain ⟨_, SS, MM, D7⟩ := mkM_T (K := K) (us := [V.str (S pieceL)]) (ds := [PyData.str (S pieceL)]) St.jar hq7 (.cons (.str _) .nil)
      replace St := St.same SS
      generalize upd B6 t7 (.tup [V.str (S pieceL)]) = B7 at SS MM D7 St ⊢
      replace D1 := dp_mono MM _ _ D1
      replace D2 := dp_mono MM _ _ D2
      replace D3 := dp_mono MM _ _ D3
      replace D4 := dp_mono MM _ _ D4
      replace D5 := dp_mono MM _ _ D5
      replace D6 := dp_mono MM _ _ D6
      clear MM SS
      walk_at "rd"
      refine ⟨by show 8 ≤ sizeLine; decide, fun t8 hq8 => ?_⟩
      have A : DpAll K (ms [j] B7) [V.ref t1, .ref t2, .str (S noneL), .ref t3, .ref t4, .ref t5, .ref t6, .ref t7] bnN := .cons D1 (.cons D2 (.cons (.str _) (.cons D3 (.cons D4 (.cons D5 (.cons D6 (.cons D7 .nil)))))))
      obtain ⟨_, SS, MM, _, Q6⟩ := mkM_L (K := K) St.jar hq8 A
      replace St := St.same SS
      replace A := dpAll_mono MM _ _ A
      generalize upd B7 t8 (.lst [V.ref t1, .ref t2, .str (S noneL), .ref t3, .ref t4, .ref t5, .ref t6, .ref t7]) = B8 at SS MM A Q6 St ⊢
      clear D1 D2 D3 D4 D5 D6 D7
      clear MM SS
      walk_at "rd"
      refine ⟨j, 8, rfl, St.jar, by decide, by decide, fun rr B9 rr0 rr1 hJ2 hF2 => ?_⟩
      have mm := ms1_fr hF2
      replace St := St.draw hJ2 hF2
      clear hJ2 hF2
      replace A := dpAll_mono mm _ _ A
      replace Q6 := mm.seq Q6
      obtain ⟨nn, rfl, hn⟩ : ∃ nn : Nat, rr = nn ∧ nn < 8 := ⟨rr.toNat, by omega, by omega⟩
      obtain ⟨v, ev, dv⟩ := dpAll_get A (i := nn) hn
      have zb := bnN_no _ (List.getElem_mem (show nn < (bnN).length from hn))
      generalize (bnN)[nn] = d at dv zb
      refine ix_L (ms_le.seq Q6) (atI_nat ev) ?_
      clear A Q6 ev hn rr0 rr1 mm
      exact q v d _ St.jar St.fr dv zb
    | part n cs =>
      obtain ⟨hLo, hLT, hLl⟩ := hL
      have hsz : szB (chsD cs) = true := sz_chs hLT hLl
      obtain ⟨a, x, rfl, hs, g⟩ := inv_part hx
      have St : Bn K j H H a [V.str (S partL), .int n, x] [PyData.str (S partL), .int n, chsD cs] := ⟨hJ, Frm.refl H, hs, .cons (.str _) (.cons (.int _) (.cons g .nil))⟩
      clear hx
      walk_at "rd"
      refine ix_T St.sqt (by rfl) ?_
      walk_at "rd"
      refine pw_ii ⟨by decide, by decide, by decide⟩ ?_
      walk_at "rd"
      refine pw_ii ⟨by decide, by decide, by decide⟩ ?_
      walk_at "rd"
      refine ⟨j, _, rfl, St.jar, p30, p31, fun r0 G1 r00 _ hJ1 hF1 => ?_⟩
      replace St := St.draw hJ1 hF1
      rw [p108]
      walk_at "rd"
      refine ln_X (.inr St.sqt) ?_
      walk_at "rd"
      refine ⟨j, 3, rfl, St.jar, by decide, by decide, fun k G2 k0 k1 hJ2 hF2 => ?_⟩
      replace St := St.draw hJ2 hF2
      clear hJ1 hF1 hJ2 hF2
      walk_at "rd"
      walk_at "rd"
      refine ⟨by show 1 ≤ sizeLine; decide, fun t1 hq1 => ?_⟩
      obtain ⟨_, SS, MM, D1⟩ := mkM_T (K := K) (us := [V.str (S partL)]) (ds := [PyData.str (S partL)]) St.jar hq1 (.cons (.str _) .nil)
      replace St := St.same SS
      generalize upd G2 t1 (.tup [V.str (S partL)]) = B1 at SS MM D1 St ⊢
      clear MM SS
      walk_at "rd"
      refine ⟨by show 6 ≤ sizeLine; decide, fun t2 hq2 => ?_⟩
      have A : DpAll K (ms [j] B1) [V.str (S [112, 97, 114, 116, 32]), .str (S [80, 105, 101, 99, 101]), .non, .str (S noneL), .int 1, .ref t1] bd0 := .cons (.str _) (.cons (.str _) (.cons .non (.cons (.str _) (.cons (.int _) (.cons D1 .nil)))))
      obtain ⟨_, SS, MM, _, Q6⟩ := mkM_L (K := K) St.jar hq2 A
      replace St := St.same SS
      replace A := dpAll_mono MM _ _ A
      generalize upd B1 t2 (.lst [V.str (S [112, 97, 114, 116, 32]), .str (S [80, 105, 101, 99, 101]), .non, .str (S noneL), .int 1, .ref t1]) = B2 at SS MM A Q6 St ⊢
      clear D1
      clear MM SS
      walk_at "rd"
      refine ⟨j, 6, rfl, St.jar, by decide, by decide, fun rr B3 rr0 rr1 hJ2 hF2 => ?_⟩
      have mm := ms1_fr hF2
      replace St := St.draw hJ2 hF2
      clear hJ2 hF2
      replace A := dpAll_mono mm _ _ A
      replace Q6 := mm.seq Q6
      obtain ⟨nn, rfl, hn⟩ : ∃ nn : Nat, rr = nn ∧ nn < 6 := ⟨rr.toNat, by omega, by omega⟩
      obtain ⟨v0, ev, dv0⟩ := dpAll_get A (i := nn) hn
      have zb0 := bd0_no _ (List.getElem_mem (show nn < (bd0).length from hn))
      generalize (bd0)[nn] = d0 at dv0 zb0
      refine ix_L (ms_le.seq Q6) (atI_nat ev) ?_
      clear A Q6 ev hn rr0 rr1 mm
      have fin : ∀ (k : Nat) (v : V) (d : PyData) (G : Hp), Bn K j H G a [V.str (S partL), .int n, x] [PyData.str (S partL), .int n, chsD cs] → Dp K (ms [j] G) v d → BadL (.tuple ([PyData.str (S partL), .int n, chsD cs].take k ++ [d] ++ [PyData.str (S partL), .int n, chsD cs].drop (k + 1))) → R { nx := fun x H' => Q .non H', rt := Q } [some (.ref j), some (.ref a), some (.int (100000000 + r0)), some (.int k), some v] G := by
        intro k v d G St hv hb
        rw [← hR]
        exact bent_fin St (by show 3 ≤ 10; decide) k hv fun t G' g1 g2 g3 => q _ _ _ g1 g2 g3 hb
      rcases (show k = 0 ∨ k = 1 ∨ k = 2 by omega) with rfl | rfl | rfl
      · walk_at "rd"
        refine ix_T St.sqt (by rfl) ?_
        walk_at "rd"
        walk_at "rd"
        refine ⟨by show 2 ≤ sizeLine; decide, fun t4 hq4 => ?_⟩
        have A : DpAll K (ms [j] B3) [v0, .str (S pieceL)] [d0, .str (S pieceL)] := .cons dv0 (.cons (.str _) .nil)
        obtain ⟨_, SS, MM, _, Q6⟩ := mkM_L (K := K) St.jar hq4 A
        replace St := St.same SS
        replace A := dpAll_mono MM _ _ A
        generalize upd B3 t4 (.lst [v0, .str (S pieceL)]) = B4 at SS MM A Q6 St ⊢
        replace dv0 := dp_mono MM _ _ dv0
        clear MM SS
        walk_at "rd"
        refine ⟨j, 2, rfl, St.jar, by decide, by decide, fun rr B5 rr0 rr1 hJ2 hF2 => ?_⟩
        have mm := ms1_fr hF2
        replace St := St.draw hJ2 hF2
        replace dv0 := dp_mono mm _ _ dv0
        clear hJ2 hF2
        replace A := dpAll_mono mm _ _ A
        replace Q6 := mm.seq Q6
        obtain ⟨nn, rfl, hn⟩ : ∃ nn : Nat, rr = nn ∧ nn < 2 := ⟨rr.toNat, by omega, by omega⟩
        obtain ⟨v1, ev, dv1⟩ := dpAll_get A (i := nn) hn
        have zb1 := (fun d hd => (show d ∈ [d0, PyData.str (S pieceL)] → HdB d ∨ d = .str (S pieceL) from fun h => (List.mem_cons.mp h).elim (fun e => .inl (e ▸ zb0)) fun h => .inr (List.mem_singleton.mp h)) hd : ∀ d ∈ [d0, PyData.str (S pieceL)], HdB d ∨ d = .str (S pieceL)) _ (List.getElem_mem (show nn < ([d0, .str (S pieceL)]).length from hn))
        generalize ([d0, .str (S pieceL)])[nn] = d1 at dv1 zb1
        refine ix_L (ms_le.seq Q6) (atI_nat ev) ?_
        clear A Q6 ev hn rr0 rr1 mm
        walk_at "rd"
        refine ix_T St.sqt (by rfl) ?_
        walk_at "rd"
        refine ln_X (.inr St.sqt) ?_
        walk_at "rd"
        exact fin 0 _ _ _ St dv1 (part0 hsz zb1)
      · walk_at "rd"
        walk_at "rd"
        walk_at "rd"
        refine ⟨by show 1 ≤ sizeLine; decide, fun t4 hq4 => ?_⟩
        obtain ⟨_, SS, MM, D4⟩ := mkM_T (K := K) (us := [V.int 1]) (ds := [PyData.int 1]) St.jar hq4 (.cons (.int _) .nil)
        replace St := St.same SS
        generalize upd B3 t4 (.tup [V.int 1]) = B4 at SS MM D4 St ⊢
        replace dv0 := dp_mono MM _ _ dv0
        clear MM SS
        walk_at "rd"
        refine ⟨by show 6 ≤ sizeLine; decide, fun t5 hq5 => ?_⟩
        have A : DpAll K (ms [j] B4) [V.int (-1), .int (100000000 + r0), .non, .bl true, .str (S [49]), .ref t4] (bd1 (100000000 + r0)) := .cons (.int _) (.cons (.int _) (.cons .non (.cons (.bl _) (.cons (.str _) (.cons D4 .nil)))))
        obtain ⟨_, SS, MM, _, Q6⟩ := mkM_L (K := K) St.jar hq5 A
        replace St := St.same SS
        replace A := dpAll_mono MM _ _ A
        generalize upd B4 t5 (.lst [V.int (-1), .int (100000000 + r0), .non, .bl true, .str (S [49]), .ref t4]) = B5 at SS MM A Q6 St ⊢
        clear D4
        replace dv0 := dp_mono MM _ _ dv0
        clear MM SS
        walk_at "rd"
        refine ⟨j, 6, rfl, St.jar, by decide, by decide, fun rr B6 rr0 rr1 hJ2 hF2 => ?_⟩
        have mm := ms1_fr hF2
        replace St := St.draw hJ2 hF2
        replace dv0 := dp_mono mm _ _ dv0
        clear hJ2 hF2
        replace A := dpAll_mono mm _ _ A
        replace Q6 := mm.seq Q6
        obtain ⟨nn, rfl, hn⟩ : ∃ nn : Nat, rr = nn ∧ nn < 6 := ⟨rr.toNat, by omega, by omega⟩
        obtain ⟨v1, ev, dv1⟩ := dpAll_get A (i := nn) hn
        have zb1 := (bd1_no (show (100000000 : Int) ≤ 100000000 + r0 by omega)) _ (List.getElem_mem (show nn < ((bd1 (100000000 + r0))).length from hn))
        generalize ((bd1 (100000000 + r0)))[nn] = d1 at dv1 zb1
        refine ix_L (ms_le.seq Q6) (atI_nat ev) ?_
        clear A Q6 ev hn rr0 rr1 mm
        walk_at "rd"
        refine ix_T St.sqt (by rfl) ?_
        walk_at "rd"
        refine ⟨j, 3, rfl, St.jar, by decide, by decide, fun rr B7 rr0 rr1 hJ2 hF2 => ?_⟩
        have mm := ms1_fr hF2
        replace St := St.draw hJ2 hF2
        replace dv0 := dp_mono mm _ _ dv0
        replace dv1 := dp_mono mm _ _ dv1
        clear hJ2 hF2
        walk_at "rd"
        refine ite2' (fun e => ?_) (fun e => ?_)
        · walk_at "rd"
          refine ln_X (.inr St.sqt) ?_
          walk_at "rd"
          exact fin 1 _ _ _ St (.int 0) (part1 hsz rfl rfl)
        · walk_at "rd"
          refine ln_X (.inr St.sqt) ?_
          walk_at "rd"
          exact fin 1 _ _ _ St dv1 (part1 hsz zb1.1 (zb1.2 1 (by decide)))
      · walk_at "rd"
        refine ix_T St.sqt (by rfl) ?_
        walk_at "rd"
        refine ln_X (.inr St.sqt) ?_
        walk_at "rd"
        refine iteTd rfl ?_
        walk_at "rd"
        refine ⟨j, rfl, St.jar, fun v1 d1 G9 hJ9 hF9 dv1 zb1 => ?_⟩
        replace St := St.draw hJ9 hF9
        walk_at "rd"
        exact fin 2 _ _ _ St dv1 (part2 zb1)
    | piece n i m cs =>
      obtain ⟨hLo, hLT, hLl⟩ := hL
      have hsz : szB (chsD cs) = true := sz_chs hLT hLl
      obtain ⟨a, x, rfl, hs, g⟩ := inv_piece hx
      have St : Bn K j H H a [V.str (S pieceL), .int n, .int i, .int m, x] [PyData.str (S pieceL), .int n, .int i, .int m, chsD cs] := ⟨hJ, Frm.refl H, hs, .cons (.str _) (.cons (.int _) (.cons (.int _) (.cons (.int _) (.cons g .nil))))⟩
      clear hx
      walk_at "rd"
      refine ix_T St.sqt (by rfl) ?_
      walk_at "rd"
      refine pw_ii ⟨by decide, by decide, by decide⟩ ?_
      walk_at "rd"
      refine pw_ii ⟨by decide, by decide, by decide⟩ ?_
      walk_at "rd"
      refine ⟨j, _, rfl, St.jar, p30, p31, fun r0 G1 r00 _ hJ1 hF1 => ?_⟩
      replace St := St.draw hJ1 hF1
      rw [p108]
      walk_at "rd"
      refine ln_X (.inr St.sqt) ?_
      walk_at "rd"
      refine ⟨j, 5, rfl, St.jar, by decide, by decide, fun k G2 k0 k1 hJ2 hF2 => ?_⟩
      replace St := St.draw hJ2 hF2
      clear hJ1 hF1 hJ2 hF2
      walk_at "rd"
      walk_at "rd"
      refine ⟨by show 1 ≤ sizeLine; decide, fun t1 hq1 => ?_⟩
      obtain ⟨_, SS, MM, D1⟩ := mkM_T (K := K) (us := [V.str (S partL)]) (ds := [PyData.str (S partL)]) St.jar hq1 (.cons (.str _) .nil)
      replace St := St.same SS
      generalize upd G2 t1 (.tup [V.str (S partL)]) = B1 at SS MM D1 St ⊢
      clear MM SS
      walk_at "rd"
      refine ⟨by show 6 ≤ sizeLine; decide, fun t2 hq2 => ?_⟩
      have A : DpAll K (ms [j] B1) [V.str (S [112, 97, 114, 116, 32]), .str (S [80, 105, 101, 99, 101]), .non, .str (S noneL), .int 1, .ref t1] bd0 := .cons (.str _) (.cons (.str _) (.cons .non (.cons (.str _) (.cons (.int _) (.cons D1 .nil)))))
      obtain ⟨_, SS, MM, _, Q6⟩ := mkM_L (K := K) St.jar hq2 A
      replace St := St.same SS
      replace A := dpAll_mono MM _ _ A
      generalize upd B1 t2 (.lst [V.str (S [112, 97, 114, 116, 32]), .str (S [80, 105, 101, 99, 101]), .non, .str (S noneL), .int 1, .ref t1]) = B2 at SS MM A Q6 St ⊢
      clear D1
      clear MM SS
      walk_at "rd"
      refine ⟨j, 6, rfl, St.jar, by decide, by decide, fun rr B3 rr0 rr1 hJ2 hF2 => ?_⟩
      have mm := ms1_fr hF2
      replace St := St.draw hJ2 hF2
      clear hJ2 hF2
      replace A := dpAll_mono mm _ _ A
      replace Q6 := mm.seq Q6
      obtain ⟨nn, rfl, hn⟩ : ∃ nn : Nat, rr = nn ∧ nn < 6 := ⟨rr.toNat, by omega, by omega⟩
      obtain ⟨v0, ev, dv0⟩ := dpAll_get A (i := nn) hn
      have zb0 := bd0_no _ (List.getElem_mem (show nn < (bd0).length from hn))
      generalize (bd0)[nn] = d0 at dv0 zb0
      refine ix_L (ms_le.seq Q6) (atI_nat ev) ?_
      clear A Q6 ev hn rr0 rr1 mm
      have fin : ∀ (k : Nat) (v : V) (d : PyData) (G : Hp), Bn K j H G a [V.str (S pieceL), .int n, .int i, .int m, x] [PyData.str (S pieceL), .int n, .int i, .int m, chsD cs] → Dp K (ms [j] G) v d → BadL (.tuple ([PyData.str (S pieceL), .int n, .int i, .int m, chsD cs].take k ++ [d] ++ [PyData.str (S pieceL), .int n, .int i, .int m, chsD cs].drop (k + 1))) → R { nx := fun x H' => Q .non H', rt := Q } [some (.ref j), some (.ref a), some (.int (100000000 + r0)), some (.int k), some v] G := by
        intro k v d G St hv hb
        rw [← hR]
        exact bent_fin St (by show 5 ≤ 10; decide) k hv fun t G' g1 g2 g3 => q _ _ _ g1 g2 g3 hb
      rcases (show k = 0 ∨ k = 1 ∨ k = 2 ∨ k = 3 ∨ k = 4 by omega) with rfl | rfl | rfl | rfl | rfl
      · walk_at "rd"
        refine ix_T St.sqt (by rfl) ?_
        walk_at "rd"
        refine ix_T St.sqt (by rfl) ?_
        walk_at "rd"
        walk_at "rd"
        refine ⟨by show 2 ≤ sizeLine; decide, fun t4 hq4 => ?_⟩
        have A : DpAll K (ms [j] B3) [v0, .str (S partL)] [d0, .str (S partL)] := .cons dv0 (.cons (.str _) .nil)
        obtain ⟨_, SS, MM, _, Q6⟩ := mkM_L (K := K) St.jar hq4 A
        replace St := St.same SS
        replace A := dpAll_mono MM _ _ A
        generalize upd B3 t4 (.lst [v0, .str (S partL)]) = B4 at SS MM A Q6 St ⊢
        replace dv0 := dp_mono MM _ _ dv0
        clear MM SS
        walk_at "rd"
        refine ⟨j, 2, rfl, St.jar, by decide, by decide, fun rr B5 rr0 rr1 hJ2 hF2 => ?_⟩
        have mm := ms1_fr hF2
        replace St := St.draw hJ2 hF2
        replace dv0 := dp_mono mm _ _ dv0
        clear hJ2 hF2
        replace A := dpAll_mono mm _ _ A
        replace Q6 := mm.seq Q6
        obtain ⟨nn, rfl, hn⟩ : ∃ nn : Nat, rr = nn ∧ nn < 2 := ⟨rr.toNat, by omega, by omega⟩
        obtain ⟨v1, ev, dv1⟩ := dpAll_get A (i := nn) hn
        have zb1 := (fun d hd => (show d ∈ [d0, PyData.str (S partL)] → HdB d ∨ d = .str (S partL) from fun h => (List.mem_cons.mp h).elim (fun e => .inl (e ▸ zb0)) fun h => .inr (List.mem_singleton.mp h)) hd : ∀ d ∈ [d0, PyData.str (S partL)], HdB d ∨ d = .str (S partL)) _ (List.getElem_mem (show nn < ([d0, .str (S partL)]).length from hn))
        generalize ([d0, .str (S partL)])[nn] = d1 at dv1 zb1
        refine ix_L (ms_le.seq Q6) (atI_nat ev) ?_
        clear A Q6 ev hn rr0 rr1 mm
        walk_at "rd"
        refine ln_X (.inr St.sqt) ?_
        walk_at "rd"
        exact fin 0 _ _ _ St dv1 (piece0 hsz zb1)
      · walk_at "rd"
        walk_at "rd"
        walk_at "rd"
        refine ⟨by show 1 ≤ sizeLine; decide, fun t4 hq4 => ?_⟩
        obtain ⟨_, SS, MM, D4⟩ := mkM_T (K := K) (us := [V.int 1]) (ds := [PyData.int 1]) St.jar hq4 (.cons (.int _) .nil)
        replace St := St.same SS
        generalize upd B3 t4 (.tup [V.int 1]) = B4 at SS MM D4 St ⊢
        replace dv0 := dp_mono MM _ _ dv0
        clear MM SS
        walk_at "rd"
        refine ⟨by show 6 ≤ sizeLine; decide, fun t5 hq5 => ?_⟩
        have A : DpAll K (ms [j] B4) [V.int (-1), .int (100000000 + r0), .non, .bl true, .str (S [49]), .ref t4] (bd1 (100000000 + r0)) := .cons (.int _) (.cons (.int _) (.cons .non (.cons (.bl _) (.cons (.str _) (.cons D4 .nil)))))
        obtain ⟨_, SS, MM, _, Q6⟩ := mkM_L (K := K) St.jar hq5 A
        replace St := St.same SS
        replace A := dpAll_mono MM _ _ A
        generalize upd B4 t5 (.lst [V.int (-1), .int (100000000 + r0), .non, .bl true, .str (S [49]), .ref t4]) = B5 at SS MM A Q6 St ⊢
        clear D4
        replace dv0 := dp_mono MM _ _ dv0
        clear MM SS
        walk_at "rd"
        refine ⟨j, 6, rfl, St.jar, by decide, by decide, fun rr B6 rr0 rr1 hJ2 hF2 => ?_⟩
        have mm := ms1_fr hF2
        replace St := St.draw hJ2 hF2
        replace dv0 := dp_mono mm _ _ dv0
        clear hJ2 hF2
        replace A := dpAll_mono mm _ _ A
        replace Q6 := mm.seq Q6
        obtain ⟨nn, rfl, hn⟩ : ∃ nn : Nat, rr = nn ∧ nn < 6 := ⟨rr.toNat, by omega, by omega⟩
        obtain ⟨v1, ev, dv1⟩ := dpAll_get A (i := nn) hn
        have zb1 := (bd1_no (show (100000000 : Int) ≤ 100000000 + r0 by omega)) _ (List.getElem_mem (show nn < ((bd1 (100000000 + r0))).length from hn))
        generalize ((bd1 (100000000 + r0)))[nn] = d1 at dv1 zb1
        refine ix_L (ms_le.seq Q6) (atI_nat ev) ?_
        clear A Q6 ev hn rr0 rr1 mm
        walk_at "rd"
        refine ix_T St.sqt (by rfl) ?_
        walk_at "rd"
        refine ln_X (.inr St.sqt) ?_
        walk_at "rd"
        exact fin 1 _ _ _ St dv1 (piece1 hsz zb1.1 (zb1.2 0 (by decide)))
      · walk_at "rd"
        refine ix_T St.sqt (by rfl) ?_
        walk_at "rd"
        refine ix_T St.sqt (by rfl) ?_
        walk_at "rd"
        refine ix_T St.sqt (by rfl) ?_
        walk_at "rd"
        walk_at "rd"
        refine ⟨by show 6 ≤ sizeLine; decide, fun t4 hq4 => ?_⟩
        have A : DpAll K (ms [j] B3) [V.int (-1), .int m, .int ((m : Int) + (100000000 + r0)), .non, .bl false, .str (S [48])] (bd2 m (100000000 + r0)) := .cons (.int _) (.cons (.int _) (.cons (.int _) (.cons .non (.cons (.bl _) (.cons (.str _) .nil)))))
        obtain ⟨_, SS, MM, _, Q6⟩ := mkM_L (K := K) St.jar hq4 A
        replace St := St.same SS
        replace A := dpAll_mono MM _ _ A
        generalize upd B3 t4 (.lst [V.int (-1), .int m, .int ((m : Int) + (100000000 + r0)), .non, .bl false, .str (S [48])]) = B4 at SS MM A Q6 St ⊢
        replace dv0 := dp_mono MM _ _ dv0
        clear MM SS
        walk_at "rd"
        refine ⟨j, 6, rfl, St.jar, by decide, by decide, fun rr B5 rr0 rr1 hJ2 hF2 => ?_⟩
        have mm := ms1_fr hF2
        replace St := St.draw hJ2 hF2
        replace dv0 := dp_mono mm _ _ dv0
        clear hJ2 hF2
        replace A := dpAll_mono mm _ _ A
        replace Q6 := mm.seq Q6
        obtain ⟨nn, rfl, hn⟩ : ∃ nn : Nat, rr = nn ∧ nn < 6 := ⟨rr.toNat, by omega, by omega⟩
        obtain ⟨v1, ev, dv1⟩ := dpAll_get A (i := nn) hn
        have zb1 := (bd2_no (show (0 : Int) ≤ 100000000 + r0 by omega)) _ (List.getElem_mem (show nn < ((bd2 m (100000000 + r0))).length from hn))
        generalize ((bd2 m (100000000 + r0)))[nn] = d1 at dv1 zb1
        refine ix_L (ms_le.seq Q6) (atI_nat ev) ?_
        clear A Q6 ev hn rr0 rr1 mm
        walk_at "rd"
        refine ln_X (.inr St.sqt) ?_
        walk_at "rd"
        exact fin 2 _ _ _ St dv1 (piece2 hsz zb1.1 zb1.2)
      · walk_at "rd"
        refine ix_T St.sqt (by rfl) ?_
        walk_at "rd"
        walk_at "rd"
        refine ⟨by show 7 ≤ sizeLine; decide, fun t4 hq4 => ?_⟩
        have A : DpAll K (ms [j] B3) [V.int i, .int 0, .int (-1), .int 10000, .int (10000 + (100000000 + r0)), .non, .str (S [49])] (bd3 i (100000000 + r0)) := .cons (.int _) (.cons (.int _) (.cons (.int _) (.cons (.int _) (.cons (.int _) (.cons .non (.cons (.str _) .nil))))))
        obtain ⟨_, SS, MM, _, Q6⟩ := mkM_L (K := K) St.jar hq4 A
        replace St := St.same SS
        replace A := dpAll_mono MM _ _ A
        generalize upd B3 t4 (.lst [V.int i, .int 0, .int (-1), .int 10000, .int (10000 + (100000000 + r0)), .non, .str (S [49])]) = B4 at SS MM A Q6 St ⊢
        replace dv0 := dp_mono MM _ _ dv0
        clear MM SS
        walk_at "rd"
        refine ⟨j, 7, rfl, St.jar, by decide, by decide, fun rr B5 rr0 rr1 hJ2 hF2 => ?_⟩
        have mm := ms1_fr hF2
        replace St := St.draw hJ2 hF2
        replace dv0 := dp_mono mm _ _ dv0
        clear hJ2 hF2
        replace A := dpAll_mono mm _ _ A
        replace Q6 := mm.seq Q6
        obtain ⟨nn, rfl, hn⟩ : ∃ nn : Nat, rr = nn ∧ nn < 7 := ⟨rr.toNat, by omega, by omega⟩
        obtain ⟨v1, ev, dv1⟩ := dpAll_get A (i := nn) hn
        have zb1 := (bd3_no (show (0 : Int) ≤ 100000000 + r0 by omega)) _ (List.getElem_mem (show nn < ((bd3 i (100000000 + r0))).length from hn))
        generalize ((bd3 i (100000000 + r0)))[nn] = d1 at dv1 zb1
        refine ix_L (ms_le.seq Q6) (atI_nat ev) ?_
        clear A Q6 ev hn rr0 rr1 mm
        walk_at "rd"
        refine ln_X (.inr St.sqt) ?_
        walk_at "rd"
        exact fin 3 _ _ _ St dv1 (piece3 hsz zb1.1 zb1.2)
      · walk_at "rd"
        refine ln_X (.inr St.sqt) ?_
        walk_at "rd"
        refine iteTd rfl ?_
        walk_at "rd"
        refine ⟨j, rfl, St.jar, fun v1 d1 G9 hJ9 hF9 dv1 zb1 => ?_⟩
        replace St := St.draw hJ9 hF9
        walk_at "rd"
        refine ⟨j, 3, rfl, St.jar, by decide, by decide, fun rr B4 rr0 rr1 hJ2 hF2 => ?_⟩
        have mm := ms1_fr hF2
        replace St := St.draw hJ2 hF2
        replace dv1 := dp_mono mm _ _ dv1
        clear hJ2 hF2
        walk_at "rd"
        refine ite2' (fun e => ?_) (fun e => ?_)
        · skip
          walk_at "rd"
          refine ⟨by show 2 ≤ sizeLine; decide, fun t5 hq5 => ?_⟩
          obtain ⟨_, SS, MM, D5⟩ := mkM_T (K := K) (us := [V.str (S [97]), .str (S [120])]) (ds := [PyData.str (S [97]), .str (S [120])]) St.jar hq5 (.cons (.str _) (.cons (.str _) .nil))
          replace St := St.same SS
          generalize upd B4 t5 (.tup [V.str (S [97]), .str (S [120])]) = B5 at SS MM D5 St ⊢
          replace dv1 := dp_mono MM _ _ dv1
          clear MM SS
          walk_at "rd"
          refine ⟨by show 2 ≤ sizeLine; decide, fun t6 hq6 => ?_⟩
          obtain ⟨_, SS, MM, D6⟩ := mkM_T (K := K) (us := [V.str (S [98]), .non]) (ds := [PyData.str (S [98]), .none]) St.jar hq6 (.cons (.str _) (.cons .non .nil))
          replace St := St.same SS
          generalize upd B5 t6 (.tup [V.str (S [98]), .non]) = B6 at SS MM D6 St ⊢
          replace dv1 := dp_mono MM _ _ dv1
          replace D5 := dp_mono MM _ _ D5
          clear MM SS
          walk_at "rd"
          refine ⟨by show 2 ≤ sizeLine; decide, fun t7 hq7 => ?_⟩
          obtain ⟨_, SS, MM, D7⟩ := mkM_T (K := K) (us := [V.ref t5, .ref t6]) (ds := [PyData.tuple [PyData.str (S [97]), .str (S [120])], .tuple [PyData.str (S [98]), .none]]) St.jar hq7 (.cons D5 (.cons D6 .nil))
          replace St := St.same SS
          generalize upd B6 t7 (.tup [V.ref t5, .ref t6]) = B7 at SS MM D7 St ⊢
          clear D5 D6
          replace dv1 := dp_mono MM _ _ dv1
          clear MM SS
          walk_at "rd"
          exact fin 4 _ bd4 _ St D7 (piece4 bd4_no.1 bd4_no.2)
        · walk_at "rd"
          exact fin 4 _ _ _ St dv1 (piece4 zb1.1 zb1.ent)
end
end My

set_option Elab.async false
set_option linter.all false
set_option maxRecDepth 100000
set_option maxHeartbeats 1000000
namespace My
open PySem PySem.Spec PyProof.Rows L2
local macro_rules | `(tactic| walk_at "len") => `(tactic| first | assumption | omega | decide | (simp only [List.length_append, List.length_take, List.length_drop, List.length_cons, List.length_nil, List.length_replicate]; omega))
local macro_rules | `(tactic| walk_at "side") => `(tactic| first | assumption | exact Nat.zero_le _ | decide | omega)
local macro_rules | `(tactic| walk_at "rd1") => `(tactic| first
  | with_reducible refine s_seq ?_
  | with_reducible refine x_gsub ?_
  | with_reducible refine s_asg ?_
  | ((with_reducible refine s_gn ?_); dsimp only [List.set])
  | ((with_reducible refine x_var (v := ?rdv) ?rdhv ?_); (case rdhv => rfl))
  | with_reducible refine x_c ?_
  | with_reducible refine x_op ?_
  | with_reducible refine x_cons ?_
  | with_reducible refine x_nil ?_
  | with_reducible refine x_cb ?_
  | with_reducible refine x_call ?_
  | with_reducible refine x_callS ?_
  | with_reducible refine x_revT ?_
  | with_reducible refine x_dget ?_
  | with_reducible refine x_din ?_
  | with_reducible refine x_dnotin ?_
  | with_reducible refine s_dput ?_
  | with_reducible refine x_dnew ?_
  | with_reducible refine s_try ?_
  | with_reducible refine s_raise ?_
  | with_reducible refine s_if ?_
  | with_reducible refine s_ret ?_
  | with_reducible refine s_retN ?_
  | with_reducible refine s_next ?_
  | with_reducible refine s_brk ?_
  | with_reducible refine s_cont ?_
  | with_reducible refine s_drop ?_
  | with_reducible refine s_par ?_
  | with_reducible refine s_par3 ?_
  | ((with_reducible refine s_p2 ?_); dsimp only [List.set])
  | ((with_reducible refine s_p3 ?_); dsimp only [List.set])
  | with_reducible refine f_r1 ?_
  | with_reducible refine f_r2 ?_
  | with_reducible refine f_l ?_
  | with_reducible refine f_t ?_
  | with_reducible refine f_s ?_
  | with_reducible refine c_r1 ?_
  | with_reducible refine c_r2 ?_
  | with_reducible refine c_l ?_
  | with_reducible refine c_t ?_
  | with_reducible refine c_s ?_
  | with_reducible refine x_tst ?_
  | with_reducible refine x_tru ?_
  | with_reducible refine x_truB ?_
  | with_reducible refine x_bl2 ?_
  | with_reducible refine x_int ?_
  | with_reducible refine x_str ?_
  | with_reducible refine x_not ?_
  | with_reducible refine x_and ?_
  | with_reducible refine x_or ?_
  | with_reducible refine x_andV ?_
  | with_reducible refine x_orV ?_
  | with_reducible refine x_notV ?_
  | with_reducible refine x_if ?_
  | with_reducible refine x_yes ?_
  | with_reducible refine x_un ?_
  | with_reducible refine x_tup ?_
  | with_reducible refine x_lst ?_
  | with_reducible refine x_callK ?_
  | with_reducible refine x_callK0 ?_
  | with_reducible refine x_bm ?_
  | with_reducible refine x_bm0 ?_
  | with_reducible refine x_tyS ?_
  | with_reducible refine x_sl ?_
  | with_reducible refine x_nopart ?_
  | with_reducible refine x_part ?_
  | with_reducible refine x_fmt0 ?_
  | with_reducible refine x_gc ?_
  | with_reducible refine x_gz ?_
  | with_reducible refine x_ckw ?_
  | with_reducible refine x_fmt ?_
  | with_reducible refine x_chain ?_
  | with_reducible refine a_ii ?_
  | ((with_reducible refine sl_to ?rda ?rdb ?_); (case rda => walk_at "len"); (case rdb => walk_at "len"))
  | ((with_reducible refine sl_from ?rda ?rdb ?_); (case rda => walk_at "len"); (case rdb => walk_at "len"))
  | ((with_reducible refine sl_mid ?rda ?rdb ?rdc ?_); (case rda => walk_at "len"); (case rdb => walk_at "len"); (case rdc => walk_at "len"))
  | ((with_reducible refine a_SS ?rda ?_); (case rda => walk_at "len"))
  | ((with_reducible refine ln_S ?rda ?_); (case rda => walk_at "len"))
  | with_reducible refine e_SS ?_
  | with_reducible refine ne_SS ?_
  | with_reducible refine s_ii ?_
  | ((with_reducible refine md_ii ?rdc ?_); (case rdc => first | decide | assumption | omega))
  | with_reducible refine n_i ?_
  | with_reducible refine e_ii ?_
  | with_reducible refine e_bb ?_
  | with_reducible refine ne_ii ?_
  | with_reducible refine ne_bb ?_
  | with_reducible refine lt_ii ?_
  | with_reducible refine lt_ss ?_
  | with_reducible refine le_ii ?_
  | with_reducible refine le_ss ?_
  | with_reducible refine gt_ii ?_
  | with_reducible refine gt_ss ?_
  | with_reducible refine ge_ii ?_
  | with_reducible refine e_ss ?_
  | with_reducible refine ne_ss ?_
  | with_reducible refine is_N ?_
  | with_reducible refine is_T ?_
  | with_reducible refine is_B ?_
  | with_reducible refine isn_N ?_
  | with_reducible refine isn_T ?_
  | with_reducible refine isn_B ?_
  | with_reducible refine in_s ?_
  | with_reducible refine nin_s ?_
  | with_reducible refine i_i ?_
  | with_reducible refine i_b ?_
  | with_reducible refine ab_i ?_
  | with_reducible refine mx_ii ?_
  | with_reducible refine mn_ii ?_
  | with_reducible refine ty_N ?_
  | with_reducible refine ty_B ?_
  | with_reducible refine ty_I ?_
  | with_reducible refine ty_S ?_
  | with_reducible refine ma_s ?_
  | with_reducible refine mp_s ?_
  | with_reducible refine mdg_s ?_
  | with_reducible refine mf_s ?_
  | with_reducible refine iteT ?_
  | with_reducible refine iteF ?_
  | with_reducible refine iteNt ?_
  | with_reducible refine iteNf ?_
  | with_reducible refine iteTd (by decide) ?_
  | with_reducible refine iteFd (by decide) ?_
  | with_reducible refine iteNd (by decide) ?_
  | with_reducible refine iteNdF (by decide) ?_
  | ((with_reducible refine iteFd ?rdn ?_); (case rdn => (intro rdz; cases rdz; done)))
  | ((with_reducible refine iteNdF ?rdn ?_); (case rdn => (intro rdz; cases rdz; done))))
local macro_rules | `(tactic| walk_at "rd") => `(tactic| (repeat walk_at "rd1"))
section
variable {P : Program} {w : World} {K : PySem.W.Frag} {mg : Str → Option Value} {base : Heap}
/-! the shape of what is compared -/
theorem fine_sh {c : Ch} (h : ShT c) (n : Nat) : Fine (n + 1) (chD c) := by
  obtain ⟨k, o⟩ := c
  refine fine_tup (by show 2 ≤ _; decide) fun e he => ?_
  rcases List.mem_cons.mp he with rfl | he
  · exact fine_str h.1 n
  · rw [List.mem_singleton.mp he]
    cases o with
    | none => exact fine_non n
    | some v => exact fine_str (h.2 v rfl) n
theorem fine_chs {cs : List Ch} (hl : cs.length ≤ 100000) (h : ∀ c ∈ cs, ShT c) (n : Nat) : Fine (n + 2) (chsD cs) := fine_tup (by rw [List.length_map]; exact hl) fun e he => by
  obtain ⟨c, hc, rfl⟩ := List.mem_map.mp he
  exact fine_sh (h c hc) n
theorem chsR_five {l : List Nat} : ∀ (n a : Nat) (cs : List Ch), chsR l n a = some cs → 5 * cs.length ≤ l.length - a
  | 0, a, cs, h => by cases h; exact Nat.zero_le _
  | n + 1, a, cs, h => by
    rw [chsR] at h
    by_cases ha : a < l.length
    · rw [if_pos ha] at h
      cases hc : chgR l a with
      | none => rw [hc] at h; cases h
      | some r =>
        have hlt := chgR_lt hc
        rw [hc] at h
        have h' : (chsR l n r.2).map (r.1 :: ·) = some cs := h
        cases h2 : chsR l n r.2 with
        | none => rw [h2] at h'; cases h'
        | some r2 =>
          rw [h2] at h'
          cases h'
          have := chsR_five n _ _ h2
          rw [List.length_cons]
          omega
    · rw [if_neg ha] at h
      cases h
      exact Nat.zero_le _
theorem fine_no (o : Option Nat) (n : Nat) : Fine n (noD o) := by
  cases o with
  | none => exact fine_non n
  | some k => exact fine_int _ n
theorem fine_cs {l : List Nat} (hl : l.length ≤ 300000) (a : Nat) (h : isChsD (csD (chsR l l.length a)) = true) (n : Nat) : Fine (n + 2) (csD (chsR l l.length a)) := by
  cases hc : chsR l l.length a with
  | none => exact fine_non _
  | some cs =>
    rw [hc] at h
    have := chsR_five _ _ _ hc
    exact fine_chs (by omega) (chs_T h) n
theorem fine_letR {l : List Nat} (hl : l.length ≤ 300000) : Fine 4 (letR l) := by
  unfold letR
  by_cases h : isLetD (letF l) = true
  · rw [if_pos h]
    unfold letF at h ⊢
    by_cases h1 : l.take 1 = [80]
    · rw [if_pos h1] at h ⊢
      rw [let_part, Bool.and_eq_true, Bool.and_eq_true] at h
      refine fine_tup (by show 3 ≤ _; decide) fun e he => ?_
      rcases List.mem_cons.mp he with rfl | he
      · exact fine_str (by decide) 3
      rcases List.mem_cons.mp he with rfl | he
      · exact fine_no _ 3
      rw [List.mem_singleton.mp he]
      exact fine_cs hl _ h.2.1 1
    · rw [if_neg h1] at h ⊢
      by_cases h2 : l.take 1 = [83]
      · rw [if_pos h2] at h ⊢
        rw [let_piece] at h
        simp only [Bool.and_eq_true] at h
        obtain ⟨_, _, _, h3, _⟩ := h
        unfold isEntD at h3
        rw [Bool.and_eq_true] at h3
        refine fine_tup (by show 5 ≤ _; decide) fun e he => ?_
        rcases List.mem_cons.mp he with rfl | he
        · exact fine_str (by decide) 3
        rcases List.mem_cons.mp he with rfl | he
        · exact fine_no _ 3
        rcases List.mem_cons.mp he with rfl | he
        · exact fine_no _ 3
        rcases List.mem_cons.mp he with rfl | he
        · exact fine_no _ 3
        rw [List.mem_singleton.mp he]
        exact fine_cs hl _ h3.1 1
      · rw [if_neg h2] at h ⊢
        by_cases h3 : l = [78]
        · rw [if_pos h3]
          exact fine_tup (by show 1 ≤ _; decide) fun e he => by rw [List.mem_singleton.mp he]; exact fine_str (by decide) 3
        · rw [if_neg h3]
          exact fine_non _
  · rw [if_neg h]
    exact fine_non _
theorem sh_of {c : Ch} (h : TxC c) : ShT c := ⟨h.1.1, fun v e => (h.2 v e).1⟩
theorem fine_let {L : Lt} (h : LtG L) : Fine 4 (letD L) := by
  cases L with
  | non => exact fine_tup (by show 1 ≤ _; decide) fun e he => by rw [List.mem_singleton.mp he]; exact fine_str (by decide) 3
  | part n cs =>
    obtain ⟨_, h2, h3⟩ := h
    have h3' : cs.length ≤ 5 := h3
    refine fine_tup (by show 3 ≤ _; decide) fun e he => ?_
    rcases List.mem_cons.mp he with rfl | he
    · exact fine_str (by decide) 3
    rcases List.mem_cons.mp he with rfl | he
    · exact fine_int _ 3
    rw [List.mem_singleton.mp he]
    exact fine_chs (by omega) (fun c hc => sh_of (h2 c hc)) 1
  | piece n i p cs =>
    obtain ⟨_, h2, h3⟩ := h
    have h3' : cs.length ≤ 5 := h3
    refine fine_tup (by show 5 ≤ _; decide) fun e he => ?_
    rcases List.mem_cons.mp he with rfl | he
    · exact fine_str (by decide) 3
    rcases List.mem_cons.mp he with rfl | he
    · exact fine_int _ 3
    rcases List.mem_cons.mp he with rfl | he
    · exact fine_int _ 3
    rcases List.mem_cons.mp he with rfl | he
    · exact fine_int _ 3
    rw [List.mem_singleton.mp he]
    exact fine_chs (by omega) (fun c hc => sh_of (h2 c hc)) 1
theorem tup_ch (c : Ch) : tupD (chD c) = true := by
  obtain ⟨k, o⟩ := c
  cases o <;> simp [chD, vlD, tupD, tupDs]
theorem tup_chs (cs : List Ch) : tupD (chsD cs) = true := by
  show tupD (.tuple (cs.map chD)) = true
  rw [tupD]
  exact tupDs_of fun d hd => by
    obtain ⟨c, _, rfl⟩ := List.mem_map.mp hd
    exact tup_ch c
theorem tup_let (L : Lt) : tupD (letD L) = true := by
  cases L with
  | non => simp [letD, tupD, tupDs]
  | part n cs => simp [letD, tupD, tupDs, tup_chs]
  | piece n i p cs => simp [letD, tupD, tupDs, tup_chs]
theorem LtG.sz {L : Lt} (h : LtG L) : LetSz (letD L) := by
  cases L with
  | non => exact letSz_of shaped_noneL (by decide)
  | part n cs =>
    refine letSz_of shaped_partL fun e he => ?_
    rcases List.mem_cons.mp he with rfl | he
    · decide
    · exact sz_mem rfl (sz_chs h.2.1 h.2.2) e he
  | piece n i p cs => exact piece_sz rfl rfl rfl (sz_chs h.2.1 h.2.2)
theorem LtG.len {L : Lt} (h : LtG L) : 0 < (letT L).length ∧ (letT L).length ≤ 110000 := by
  have rl : ∀ cs : List Ch, (∀ c ∈ cs, TxC c) → cs.length ≤ 5 → (rowsT cs).length ≤ 100500 := fun cs h1 h2 => by
    have := rowsT_le (cs := cs) h1
    omega
  obtain ⟨h0, h1, h2⟩ := h
  cases L with
  | non => exact ⟨by decide, by decide⟩
  | part n cs =>
    have r := rl cs h1 h2
    have p8 : (pad 8 n).length = 8 := pad8_le h0.2.1
    show 0 < ([80] ++ pad 8 n ++ rowsT cs).length ∧ ([80] ++ pad 8 n ++ rowsT cs).length ≤ 110000
    simp only [List.length_append, List.length_cons, List.length_nil]
    omega
  | piece n i p cs =>
    obtain ⟨g1, g2, g3, g4, _⟩ := h0
    have r := rl cs h1 h2
    have p8 : (pad 8 n).length = 8 := pad8_le g1
    have p4 : (pad 4 i).length = 4 := pad_lenW (by decide) (by omega)
    have q4 : (pad 4 p).length = 4 := pad_lenW (by decide) (by omega)
    show 0 < ([83] ++ pad 8 n ++ pad 4 i ++ pad 4 p ++ rowsT cs).length ∧ ([83] ++ pad 8 n ++ pad 4 i ++ pad 4 p ++ rowsT cs).length ≤ 110000
    simp only [List.length_append, List.length_cons, List.length_nil]
    omega
/-- a letter in a heap, and a jar that draws change -/
structure Ls (K : PySem.W.Frag) (j : Addr) (H G : Hp) (x : V) (L : Lt) : Prop where
  jar : JarAt G j
  fr : Fr j H G
  dp : Dp K (ms [j] G) x (letD L)
section
variable {j : Addr} {H G G' : Hp} {x : V} {L : Lt}
theorem Ls.same (h : Ls K j H G x L) (e : Same G G') : Ls K j H G' x L := ⟨h.jar.same e, h.fr.trans (Frm.of e), dp_mono (ms_same e) _ _ h.dp⟩
theorem Ls.draw (h : Ls K j H G x L) (hJ : JarAt G' j) (hF : Fr j G G') : Ls K j H G' x L := ⟨hJ, h.fr.trans hF, dp_mono (ms1_fr hF) _ _ h.dp⟩
end
def ntD (T : List Nat) : List PyData := [.none, .int 7, .str (S (T ++ [10])), .list [.str (S T)], .tuple [.str (S T)], .bool true]
theorem ntD_no (T : List Nat) : ∀ d ∈ ntD T, isTxD d = false := by
  intro d hd
  unfold ntD at hd
  simp only [List.mem_cons, List.not_mem_nil, or_false] at hd
  rcases hd with rfl | rfl | rfl | rfl | rfl | rfl
  · rfl
  · rfl
  · show isT (T ++ [10]) = false
    rw [isT_app, show isT [10] = false by decide, Bool.and_false]
  · rfl
  · rfl
  · rfl
theorem tx_yes {l : List Nat} (h : isT l = true) : isTxD (.str (S l)) = true := h
def spLaw (K : PySem.W.Frag) : Sp := fun vs H Q _ => ∃ (a : Addr) (ns : List Int), vs = [.ref a] ∧ SqL K H a (ns.map V.int) ∧ ns.length ≤ 63 ∧ ∀ H', Q (.bl true) H'
theorem ok_law (Y : Fx K mg) : FnOk P w K mg base CX0 9 Y.a_law Y.fd_law ["_law_script"] (spLaw K) := by
  refine Y.F_law.ok sc_law (fun vs H Q E h => ?_) (fun cdv A outer st H vs Q E hr h => ?_)
  · obtain ⟨a, ns, rfl, _⟩ := h
    rfl
  · obtain ⟨a, ns, rfl, hS, hl, q⟩ := h
    refine ⟨_, b_law Y (sp__law_same := spS (Fine 4)) (sp_letter_text := sp_letter_text Y.x_InvalidLetter) (sp_letter_told := sp_letter_told Y.x_InvalidText Y.x_InvalidLetter) (ok__law_bent Y) (ok__law_draw Y) (ok__law_letter Y) (ok__law_no_letter Y) (ok__law_no_text Y) (ok__law_read Y) (ok__law_same Y 4) (ok__law_spoilt Y) (ok__law_told Y) (ok__law_well Y) (ok__law_written Y) (ok_is_letter Y) (ok_letter_text Y) (ok_letter_told Y) hr, ?_⟩
    show t_law K _ _ _ _ _ _ _ _ _ _ _ _ _ _ _ [some (.ref a), none, none, none, none, none, none, none] H
    unfold t_law
    rw [show ("\n" : Str) = S [10] from rfl]
    walk_at "rd"
    refine ⟨a, _, rfl, .inl hS, fun p1 hp1 => ?_⟩
    walk_at "rd"
    refine ⟨by show 1 ≤ sizeLine; decide, fun p2 hp2 => ?_⟩
    refine a_ll (same_upd hp2 _ _ upd_same) upd_same (by rw [List.length_map]; exact Nat.le_trans (show ns.length + 1 ≤ 64 by omega) (by decide)) fun p3 hp3 => ?_
    walk_at "rd"
    refine sl_L (lst_of upd_same) fun p4 hp4 => ?_
    rw [show (some (12 : Int)) = some ((12 : Nat) : Int) from rfl, cutV_to]
    have e6 : (ns.map V.int ++ [V.int 0]).take 12 = ((ns ++ [0]).take 12).map V.int := by
      rw [List.map_take, List.map_append]
      rfl
    rw [e6]
    generalize hLL : (ns ++ [0]).take 12 = L
    have h66 : (upd (upd (upd (upd H p1 (.lst (ns.map V.int))) p2 (.lst [V.int 0])) p3 (.lst (ns.map V.int ++ [V.int 0]))) p4 (.lst (L.map V.int))) p4 = some (.lst (L.map V.int)) := upd_same
    generalize upd (upd (upd (upd H p1 (.lst (ns.map V.int))) p2 (.lst [V.int 0])) p3 (.lst (ns.map V.int ++ [V.int 0]))) p4 (.lst (L.map V.int)) = H6 at h66 ⊢
    refine forL_mk (lst_of h66) (fun i σ H' => ∃ y1 y2 y3 y4 y5 y6 y7 : Option V, σ = [some (.ref a), y1, y2, y3, y4, y5, y6, y7] ∧ Same H6 H') ⟨_, _, _, _, _, _, _, rfl, Same.refl _⟩ (fun i σ H' _ hV => lst_of (by obtain ⟨_, _, _, _, _, _, _, _, e⟩ := hV; exact e _ _ h66)) (fun i x σ H' hx hV => ?_) (fun σ H' hV => ?_)
    · obtain ⟨y1, y2, y3, y4, y5, y6, y7, rfl, hS'⟩ := hV
      obtain ⟨z, _, rfl⟩ := map_get hx
      clear hx hS hl hLL
      walk_at "rd"
      refine ⟨z, rfl, fun j H7 hj hJ7 hS7 => ?_⟩
      walk_at "rd"
      refine ⟨j, rfl, hJ7, fun x L H8 hJ8 hF8 hx8 hL => ?_⟩
      have St : Ls K j H7 H8 x L := ⟨hJ8, hF8, ms_dp (ms1_nt hJ8) _ _ (tup_let L) hx8⟩
      clear hJ8 hF8 hx8
      have hLe := Nat.le_trans hL.2.2 (show 5 ≤ 20 by decide)
      have hyes : isLetD (letD L) = true := (let_ok L).mpr hL.1
      have hlen := hL.len
      have hT := letT_T hL.1
      walk_at "rd"
      refine ⟨x, L, rfl, ms_un St.dp, hL.1, hLe, ?_⟩
      walk_at "rd"
      refine ⟨x, letD L, rfl, ms_un St.dp, hL.sz, fun G1 hS1 => ?_⟩
      replace St := St.same hS1
      clear hS1
      rw [hyes]
      walk_at "rd"
      refine ⟨x, letD L, rfl, ms_un St.dp, hL.sz, fun _ => ⟨L, rfl, hLe, fun G2 hS2 => ?_⟩, fun hn => by rw [hyes] at hn; cases hn⟩
      replace St := St.same hS2
      clear hS2
      walk_at "rd"
      refine ⟨_, _, _, rfl, .str _, .str _, fine_str hT 4, fun G3 hS3 => ?_⟩
      replace St := St.same hS3
      clear hS3
      walk_at "rd"
      refine ⟨_, .str (S (letT L)), rfl, .str _, fun l e _ => ?_, fun hn => by rw [tx_yes hT] at hn; cases hn⟩
      obtain rfl := S_inj (PyData.str.inj e)
      refine ⟨by omega, fun _ v G4 hS4 hv => ?_, fun hn => by rw [let_back L hL.1, hyes] at hn; cases hn⟩
      rw [let_back L hL.1] at hv
      replace St := St.same hS4
      clear hS4
      walk_at "rd"
      refine ⟨v, x, letD L, rfl, hv, ms_un St.dp, fine_let hL, fun G5 hS5 => ?_⟩
      replace St := St.same hS5
      clear hS5 hv
      walk_at "rd"
      refine for1_mk (by decide) (by decide) (fun i σ H' => ∃ y5 y6 y7 : Option V, σ = [some (.ref a), some (.int z), some (.ref j), some x, some (.str (S (letT L))), y5, y6, y7] ∧ Ls K j H7 H' x L) ⟨_, _, _, rfl, St⟩ (fun i σ B1 hi hV => ?_) (fun σ B1 hV => ?_)
      · obtain ⟨y5, y6, y7, rfl, St⟩ := hV
        walk_at "rd"
        refine ⟨j, x, L, rfl, St.jar, St.dp, hL, fun v d B2 hJ2 hF2 hv hb => ?_⟩
        replace St := St.draw hJ2 hF2
        clear hJ2 hF2
        walk_at "rd"
        refine ⟨v, d, rfl, ms_un hv, hb.1, fun B3 hS3 => ?_⟩
        rw [hb.2]
        replace St := St.same hS3
        replace hv := dp_mono (ms_same hS3) _ _ hv
        clear hS3
        walk_at "rd"
        refine ⟨v, d, rfl, ms_un hv, hb.1, hb.2, fun B4 hS4 => ?_⟩
        replace St := St.same hS4
        clear hS4 hv hb
        walk_at "rd"
        refine ⟨j, letT L, rfl, St.jar, hT, hlen.1, hlen.2, fun l B5 lT ll hJ5 hF5 => ?_⟩
        replace St := St.draw hJ5 hF5
        clear hJ5 hF5
        walk_at "rd"
        refine ⟨l, rfl, lT, ll, fun v1 B6 hS6 hv1 => ?_⟩
        replace St := St.same hS6
        clear hS6
        walk_at "rd"
        refine ⟨l, rfl, lT, ll, fun v2 B7 hS7 hv2 => ?_⟩
        replace St := St.same hS7
        replace hv1 := dp_mono hS7 _ _ hv1
        clear hS7
        walk_at "rd"
        refine ⟨v1, v2, letR l, rfl, hv1, hv2, fine_letR ll, fun B8 hS8 => ?_⟩
        replace St := St.same hS8
        walk_at "rd"
        exact ⟨_, _, _, rfl, St⟩
      · obtain ⟨y5, y6, y7, rfl, St⟩ := hV
        generalize letT L = T at hT hlen ⊢
        walk_at "rd"
        refine ⟨by show 1 ≤ sizeLine; decide, fun t1 hq1 => ?_⟩
        obtain ⟨_, SS, MM, D1, _⟩ := mkM_L (K := K) (us := [V.str (S T)]) (ds := [PyData.str (S T)]) St.jar hq1 (.cons (.str _) .nil)
        replace St := St.same SS
        generalize upd B1 t1 (.lst [V.str (S T)]) = B1 at SS MM D1 St ⊢
        clear MM SS
        walk_at "rd"
        refine ⟨by show 1 ≤ sizeLine; decide, fun t2 hq2 => ?_⟩
        obtain ⟨_, SS, MM, D2⟩ := mkM_T (K := K) (us := [V.str (S T)]) (ds := [PyData.str (S T)]) St.jar hq2 (.cons (.str _) .nil)
        replace St := St.same SS
        generalize upd B1 t2 (.tup [V.str (S T)]) = B2 at SS MM D2 St ⊢
        replace D1 := dp_mono MM _ _ D1
        clear MM SS
        walk_at "rd"
        refine ⟨by show 6 ≤ sizeLine; decide, fun t3 hq3 => ?_⟩
        have A : DpAll K (ms [j] B2) [V.non, .int 7, .str (S (T ++ [10])), .ref t1, .ref t2, .bl true] (ntD T) := .cons .non (.cons (.int _) (.cons (.str _) (.cons D1 (.cons D2 (.cons (.bl _) .nil)))))
        obtain ⟨_, SS, MM, _, Q6⟩ := mkM_L (K := K) St.jar hq3 A
        replace St := St.same SS
        replace A := dpAll_mono MM _ _ A
        generalize upd B2 t3 (.lst [V.non, .int 7, .str (S (T ++ [10])), .ref t1, .ref t2, .bl true]) = B3 at SS MM A Q6 St ⊢
        clear D1 D2
        clear MM SS
        walk_at "rd"
        refine ⟨j, 6, rfl, St.jar, by decide, by decide, fun rr B4 rr0 rr1 hJ2 hF2 => ?_⟩
        have mm := ms1_fr hF2
        replace St := St.draw hJ2 hF2
        clear hJ2 hF2
        replace A := dpAll_mono mm _ _ A
        replace Q6 := mm.seq Q6
        obtain ⟨nn, rfl, hn⟩ : ∃ nn : Nat, rr = nn ∧ nn < 6 := ⟨rr.toNat, by omega, by omega⟩
        obtain ⟨v, ev, dv⟩ := dpAll_get A (i := nn) hn
        have zb := (ntD_no T) _ (List.getElem_mem (show nn < ((ntD T)).length from hn))
        generalize ((ntD T))[nn] = d at dv zb
        refine ix_L (ms_le.seq Q6) (atI_nat ev) ?_
        clear A Q6 ev hn rr0 rr1 mm
        walk_at "rd"
        refine ⟨v, d, rfl, ms_un dv, zb, ?_⟩
        walk_at "rd"
        exact ⟨_, _, _, _, _, _, _, rfl, hS'.trans (St.fr.same hS7 hj hj)⟩
    · obtain ⟨y1, y2, y3, y4, y5, y6, y7, rfl, hS'⟩ := hV
      walk_at "rd"
      exact q _
end
end My

set_option Elab.async false
set_option linter.all false
set_option maxRecDepth 100000
set_option maxHeartbeats 1000000
namespace My
open PySem PySem.Spec PyProof.Rows L2
theorem rel_kb_is_letter_0 {vs : List V} {us : List Value} {zs : List V} {ws : List Value} (r1 : Vals vs us) (r2 : Vals zs ws) : Vals (gV_kb_is_letter_0 vs zs) (g_kb_is_letter_0 us ws) := by
  cases r1 with
  | cons _ _ => exact .nil
  | nil =>
    cases r2 with
    | nil => exact .nil
    | cons y0 r2 =>
      cases r2 with
      | cons _ _ => exact .nil
      | nil =>
        exact (.cons y0 .nil)

theorem kbm_kb_is_letter_0 {K : PySem.W.Frag} {f : Addr} {fd : FuncData} (F : Fun K "is_letter" "is_letter" s_is_letter f fd) : KBinds K fd ["value"] ["value"] g_kb_is_letter_0 gV_kb_is_letter_0 := by
  obtain ⟨oc, od, kV, doc, pm, an, cdv, ct, osl, rfl, lk, hcd⟩ := F.ex
  refine ⟨fun s us ws _ hl => ?_, rel_kb_is_letter_0⟩
  have hp : ∃ y0, us = [] ∧ ws = [y0] := by
    unfold g_kb_is_letter_0 at hl
    split at hl
    · exact ⟨_, rfl, rfl⟩
    · cases hl
  obtain ⟨y0, rfl, rfl⟩ := hp
  exact BindsTo.of_eq rfl
theorem rel_kb_letter_text_0 {vs : List V} {us : List Value} {zs : List V} {ws : List Value} (r1 : Vals vs us) (r2 : Vals zs ws) : Vals (gV_kb_letter_text_0 vs zs) (g_kb_letter_text_0 us ws) := by
  cases r1 with
  | cons _ _ => exact .nil
  | nil =>
    cases r2 with
    | nil => exact .nil
    | cons y0 r2 =>
      cases r2 with
      | cons _ _ => exact .nil
      | nil =>
        exact (.cons y0 .nil)

theorem kbm_kb_letter_text_0 {K : PySem.W.Frag} {f : Addr} {fd : FuncData} (F : Fun K "letter_text" "letter_text" s_letter_text f fd) : KBinds K fd ["letter"] ["letter"] g_kb_letter_text_0 gV_kb_letter_text_0 := by
  obtain ⟨oc, od, kV, doc, pm, an, cdv, ct, osl, rfl, lk, hcd⟩ := F.ex
  refine ⟨fun s us ws _ hl => ?_, rel_kb_letter_text_0⟩
  have hp : ∃ y0, us = [] ∧ ws = [y0] := by
    unfold g_kb_letter_text_0 at hl
    split at hl
    · exact ⟨_, rfl, rfl⟩
    · cases hl
  obtain ⟨y0, rfl, rfl⟩ := hp
  exact BindsTo.of_eq rfl
theorem rel_kb_letter_told_0 {vs : List V} {us : List Value} {zs : List V} {ws : List Value} (r1 : Vals vs us) (r2 : Vals zs ws) : Vals (gV_kb_letter_told_0 vs zs) (g_kb_letter_told_0 us ws) := by
  cases r1 with
  | cons _ _ => exact .nil
  | nil =>
    cases r2 with
    | nil => exact .nil
    | cons y0 r2 =>
      cases r2 with
      | cons _ _ => exact .nil
      | nil =>
        exact (.cons y0 .nil)

theorem kbm_kb_letter_told_0 {K : PySem.W.Frag} {f : Addr} {fd : FuncData} (F : Fun K "letter_told" "letter_told" s_letter_told f fd) : KBinds K fd ["text"] ["text"] g_kb_letter_told_0 gV_kb_letter_told_0 := by
  obtain ⟨oc, od, kV, doc, pm, an, cdv, ct, osl, rfl, lk, hcd⟩ := F.ex
  refine ⟨fun s us ws _ hl => ?_, rel_kb_letter_told_0⟩
  have hp : ∃ y0, us = [] ∧ ws = [y0] := by
    unfold g_kb_letter_told_0 at hl
    split at hl
    · exact ⟨_, rfl, rfl⟩
    · cases hl
  obtain ⟨y0, rfl, rfl⟩ := hp
  exact BindsTo.of_eq rfl
theorem exm_pair {K : PySem.W.Frag} {R S : Addr} {b : Bool} (h1 : PySem.W.subIn K (.ref S) (.type "BaseException") = some true) (h2 : PySem.W.isClsIn K S = true) (h3 : PySem.W.typeIn K (.ref S) = some (.type "type")) (h4 : PySem.W.subIn K (.ref R) (.ref S) = some b) :
    PySem.W.exmOne K (.ref R) (.ref S) = some b := by
  have e1 : (PySem.W.subIn K (.ref S) (.type "BaseException") == some true) = true := by rw [h1] <;> rfl
  have e2 : ((PySem.W.clsIn K S).isSome && PySem.W.typeIn K (.ref S) == some (.type "type")) = true := by
    have h2' : (PySem.W.clsIn K S).isSome = true := h2
    rw [h2', h3] <;> rfl
  show (if (PySem.W.subIn K (.ref S) (.type "BaseException") == some true) = true then (if ((PySem.W.clsIn K S).isSome && PySem.W.typeIn K (.ref S) == some (.type "type")) = true then PySem.W.subIn K (.ref R) (.ref S) else none) else none) = some b
  rw [if_pos e1, if_pos e2]
  exact h4
def fx_mk {K : PySem.W.Frag} {h : Heap} {mg : Str → Option Value} (X : K.In h) (G : h.Ns mainGlobals mg)
    {f0 : Addr} {od0 an0 : Option Addr} {sl0 : Array (Option Value)} {oc0 kV0 dc0 pm0 cd0 ct0 : Value}
    (a0 : PySem.W.nsIn K mainGlobals "is_text" = some (some (.ref f0))) (l0 : K.lookup f0 = some ⟨oc0, od0, .func (PySem.W.fnOf "is_text" "is_text" (defArgs s_is_text) (defBody s_is_text) (defScope s_is_text) .none kV0 dc0 pm0 an0 cd0 ct0), sl0⟩) (c0 : PySem.W.codeIn K cd0 "is_text" = true) (k0 : PySem.W.keepIn K (.ref f0) = true)
    {f1 : Addr} {od1 an1 : Option Addr} {sl1 : Array (Option Value)} {oc1 kV1 dc1 pm1 cd1 ct1 : Value}
    (a1 : PySem.W.nsIn K mainGlobals "number_at" = some (some (.ref f1))) (l1 : K.lookup f1 = some ⟨oc1, od1, .func (PySem.W.fnOf "number_at" "number_at" (defArgs s_number_at) (defBody s_number_at) (defScope s_number_at) .none kV1 dc1 pm1 an1 cd1 ct1), sl1⟩) (c1 : PySem.W.codeIn K cd1 "number_at" = true) (k1 : PySem.W.keepIn K (.ref f1) = true)
    {f2 : Addr} {od2 an2 : Option Addr} {sl2 : Array (Option Value)} {oc2 kV2 dc2 pm2 cd2 ct2 : Value}
    (a2 : PySem.W.nsIn K mainGlobals "is_changes" = some (some (.ref f2))) (l2 : K.lookup f2 = some ⟨oc2, od2, .func (PySem.W.fnOf "is_changes" "is_changes" (defArgs s_is_changes) (defBody s_is_changes) (defScope s_is_changes) .none kV2 dc2 pm2 an2 cd2 ct2), sl2⟩) (c2 : PySem.W.codeIn K cd2 "is_changes" = true) (k2 : PySem.W.keepIn K (.ref f2) = true)
    {f3 : Addr} {od3 an3 : Option Addr} {sl3 : Array (Option Value)} {oc3 kV3 dc3 pm3 cd3 ct3 : Value}
    (a3 : PySem.W.nsIn K mainGlobals "is_change" = some (some (.ref f3))) (l3 : K.lookup f3 = some ⟨oc3, od3, .func (PySem.W.fnOf "is_change" "is_change" (defArgs s_is_change) (defBody s_is_change) (defScope s_is_change) .none kV3 dc3 pm3 an3 cd3 ct3), sl3⟩) (c3 : PySem.W.codeIn K cd3 "is_change" = true) (k3 : PySem.W.keepIn K (.ref f3) = true)
    {f4 : Addr} {od4 an4 : Option Addr} {sl4 : Array (Option Value)} {oc4 kV4 dc4 pm4 cd4 ct4 : Value}
    (a4 : PySem.W.nsIn K mainGlobals "is_entries" = some (some (.ref f4))) (l4 : K.lookup f4 = some ⟨oc4, od4, .func (PySem.W.fnOf "is_entries" "is_entries" (defArgs s_is_entries) (defBody s_is_entries) (defScope s_is_entries) .none kV4 dc4 pm4 an4 cd4 ct4), sl4⟩) (c4 : PySem.W.codeIn K cd4 "is_entries" = true) (k4 : PySem.W.keepIn K (.ref f4) = true)
    {f5 : Addr} {od5 an5 : Option Addr} {sl5 : Array (Option Value)} {oc5 kV5 dc5 pm5 cd5 ct5 : Value}
    (a5 : PySem.W.nsIn K mainGlobals "change_text" = some (some (.ref f5))) (l5 : K.lookup f5 = some ⟨oc5, od5, .func (PySem.W.fnOf "change_text" "change_text" (defArgs s_change_text) (defBody s_change_text) (defScope s_change_text) .none kV5 dc5 pm5 an5 cd5 ct5), sl5⟩) (c5 : PySem.W.codeIn K cd5 "change_text" = true) (k5 : PySem.W.keepIn K (.ref f5) = true)
    {f6 : Addr} {od6 an6 : Option Addr} {sl6 : Array (Option Value)} {oc6 kV6 dc6 pm6 cd6 ct6 : Value}
    (a6 : PySem.W.nsIn K mainGlobals "changes_told" = some (some (.ref f6))) (l6 : K.lookup f6 = some ⟨oc6, od6, .func (PySem.W.fnOf "changes_told" "changes_told" (defArgs s_changes_told) (defBody s_changes_told) (defScope s_changes_told) .none kV6 dc6 pm6 an6 cd6 ct6), sl6⟩) (c6 : PySem.W.codeIn K cd6 "changes_told" = true) (k6 : PySem.W.keepIn K (.ref f6) = true)
    {f7 : Addr} {od7 an7 : Option Addr} {sl7 : Array (Option Value)} {oc7 kV7 dc7 pm7 cd7 ct7 : Value}
    (a7 : PySem.W.nsIn K mainGlobals "change_from" = some (some (.ref f7))) (l7 : K.lookup f7 = some ⟨oc7, od7, .func (PySem.W.fnOf "change_from" "change_from" (defArgs s_change_from) (defBody s_change_from) (defScope s_change_from) .none kV7 dc7 pm7 an7 cd7 ct7), sl7⟩) (c7 : PySem.W.codeIn K cd7 "change_from" = true) (k7 : PySem.W.keepIn K (.ref f7) = true)
    {f8 : Addr} {od8 an8 : Option Addr} {sl8 : Array (Option Value)} {oc8 kV8 dc8 pm8 cd8 ct8 : Value}
    (a8 : PySem.W.nsIn K mainGlobals "part_from" = some (some (.ref f8))) (l8 : K.lookup f8 = some ⟨oc8, od8, .func (PySem.W.fnOf "part_from" "part_from" (defArgs s_part_from) (defBody s_part_from) (defScope s_part_from) .none kV8 dc8 pm8 an8 cd8 ct8), sl8⟩) (c8 : PySem.W.codeIn K cd8 "part_from" = true) (k8 : PySem.W.keepIn K (.ref f8) = true)
    {f9 : Addr} {od9 an9 : Option Addr} {sl9 : Array (Option Value)} {oc9 kV9 dc9 pm9 cd9 ct9 : Value}
    (a9 : PySem.W.nsIn K mainGlobals "is_number" = some (some (.ref f9))) (l9 : K.lookup f9 = some ⟨oc9, od9, .func (PySem.W.fnOf "is_number" "is_number" (defArgs s_is_number) (defBody s_is_number) (defScope s_is_number) .none kV9 dc9 pm9 an9 cd9 ct9), sl9⟩) (c9 : PySem.W.codeIn K cd9 "is_number" = true) (k9 : PySem.W.keepIn K (.ref f9) = true)
    {f10 : Addr} {od10 an10 : Option Addr} {sl10 : Array (Option Value)} {oc10 kV10 dc10 pm10 cd10 ct10 : Value}
    (a10 : PySem.W.nsIn K mainGlobals "check_text" = some (some (.ref f10))) (l10 : K.lookup f10 = some ⟨oc10, od10, .func (PySem.W.fnOf "check_text" "check_text" (defArgs s_check_text) (defBody s_check_text) (defScope s_check_text) .none kV10 dc10 pm10 an10 cd10 ct10), sl10⟩) (c10 : PySem.W.codeIn K cd10 "check_text" = true) (k10 : PySem.W.keepIn K (.ref f10) = true)
    {f11 : Addr} {od11 an11 : Option Addr} {sl11 : Array (Option Value)} {oc11 kV11 dc11 pm11 cd11 ct11 : Value}
    (a11 : PySem.W.nsIn K mainGlobals "is_letter" = some (some (.ref f11))) (l11 : K.lookup f11 = some ⟨oc11, od11, .func (PySem.W.fnOf "is_letter" "is_letter" (defArgs s_is_letter) (defBody s_is_letter) (defScope s_is_letter) .none kV11 dc11 pm11 an11 cd11 ct11), sl11⟩) (c11 : PySem.W.codeIn K cd11 "is_letter" = true) (k11 : PySem.W.keepIn K (.ref f11) = true)
    {f12 : Addr} {od12 an12 : Option Addr} {sl12 : Array (Option Value)} {oc12 kV12 dc12 pm12 cd12 ct12 : Value}
    (a12 : PySem.W.nsIn K mainGlobals "are_lines" = some (some (.ref f12))) (l12 : K.lookup f12 = some ⟨oc12, od12, .func (PySem.W.fnOf "are_lines" "are_lines" (defArgs s_are_lines) (defBody s_are_lines) (defScope s_are_lines) .none kV12 dc12 pm12 an12 cd12 ct12), sl12⟩) (c12 : PySem.W.codeIn K cd12 "are_lines" = true) (k12 : PySem.W.keepIn K (.ref f12) = true)
    {f13 : Addr} {od13 an13 : Option Addr} {sl13 : Array (Option Value)} {oc13 kV13 dc13 pm13 cd13 ct13 : Value}
    (a13 : PySem.W.nsIn K mainGlobals "check_letter" = some (some (.ref f13))) (l13 : K.lookup f13 = some ⟨oc13, od13, .func (PySem.W.fnOf "check_letter" "check_letter" (defArgs s_check_letter) (defBody s_check_letter) (defScope s_check_letter) .none kV13 dc13 pm13 an13 cd13 ct13), sl13⟩) (c13 : PySem.W.codeIn K cd13 "check_letter" = true) (k13 : PySem.W.keepIn K (.ref f13) = true)
    {f14 : Addr} {od14 an14 : Option Addr} {sl14 : Array (Option Value)} {oc14 kV14 dc14 pm14 cd14 ct14 : Value}
    (a14 : PySem.W.nsIn K mainGlobals "letter_text" = some (some (.ref f14))) (l14 : K.lookup f14 = some ⟨oc14, od14, .func (PySem.W.fnOf "letter_text" "letter_text" (defArgs s_letter_text) (defBody s_letter_text) (defScope s_letter_text) .none kV14 dc14 pm14 an14 cd14 ct14), sl14⟩) (c14 : PySem.W.codeIn K cd14 "letter_text" = true) (k14 : PySem.W.keepIn K (.ref f14) = true)
    {f15 : Addr} {od15 an15 : Option Addr} {sl15 : Array (Option Value)} {oc15 kV15 dc15 pm15 cd15 ct15 : Value}
    (a15 : PySem.W.nsIn K mainGlobals "letter_told" = some (some (.ref f15))) (l15 : K.lookup f15 = some ⟨oc15, od15, .func (PySem.W.fnOf "letter_told" "letter_told" (defArgs s_letter_told) (defBody s_letter_told) (defScope s_letter_told) .none kV15 dc15 pm15 an15 cd15 ct15), sl15⟩) (c15 : PySem.W.codeIn K cd15 "letter_told" = true) (k15 : PySem.W.keepIn K (.ref f15) = true)
    {f16 : Addr} {od16 an16 : Option Addr} {sl16 : Array (Option Value)} {oc16 kV16 dc16 pm16 cd16 ct16 : Value}
    (a16 : PySem.W.nsIn K mainGlobals "letter_from" = some (some (.ref f16))) (l16 : K.lookup f16 = some ⟨oc16, od16, .func (PySem.W.fnOf "letter_from" "letter_from" (defArgs s_letter_from) (defBody s_letter_from) (defScope s_letter_from) .none kV16 dc16 pm16 an16 cd16 ct16), sl16⟩) (c16 : PySem.W.codeIn K cd16 "letter_from" = true) (k16 : PySem.W.keepIn K (.ref f16) = true)
    {f17 : Addr} {od17 an17 : Option Addr} {sl17 : Array (Option Value)} {oc17 kV17 dc17 pm17 cd17 ct17 : Value}
    (a17 : PySem.W.nsIn K mainGlobals "_law_well" = some (some (.ref f17))) (l17 : K.lookup f17 = some ⟨oc17, od17, .func (PySem.W.fnOf "_law_well" "_law_well" (defArgs s__law_well) (defBody s__law_well) (defScope s__law_well) .none kV17 dc17 pm17 an17 cd17 ct17), sl17⟩) (c17 : PySem.W.codeIn K cd17 "_law_well" = true) (k17 : PySem.W.keepIn K (.ref f17) = true)
    {f18 : Addr} {od18 an18 : Option Addr} {sl18 : Array (Option Value)} {oc18 kV18 dc18 pm18 cd18 ct18 : Value}
    (a18 : PySem.W.nsIn K mainGlobals "_law_draw" = some (some (.ref f18))) (l18 : K.lookup f18 = some ⟨oc18, od18, .func (PySem.W.fnOf "_law_draw" "_law_draw" (defArgs s__law_draw) (defBody s__law_draw) (defScope s__law_draw) .none kV18 dc18 pm18 an18 cd18 ct18), sl18⟩) (c18 : PySem.W.codeIn K cd18 "_law_draw" = true) (k18 : PySem.W.keepIn K (.ref f18) = true)
    {f19 : Addr} {od19 an19 : Option Addr} {sl19 : Array (Option Value)} {oc19 kV19 dc19 pm19 cd19 ct19 : Value}
    (a19 : PySem.W.nsIn K mainGlobals "_law_same" = some (some (.ref f19))) (l19 : K.lookup f19 = some ⟨oc19, od19, .func (PySem.W.fnOf "_law_same" "_law_same" (defArgs s__law_same) (defBody s__law_same) (defScope s__law_same) .none kV19 dc19 pm19 an19 cd19 ct19), sl19⟩) (c19 : PySem.W.codeIn K cd19 "_law_same" = true) (k19 : PySem.W.keepIn K (.ref f19) = true)
    {f20 : Addr} {od20 an20 : Option Addr} {sl20 : Array (Option Value)} {oc20 kV20 dc20 pm20 cd20 ct20 : Value}
    (a20 : PySem.W.nsIn K mainGlobals "_law_sign" = some (some (.ref f20))) (l20 : K.lookup f20 = some ⟨oc20, od20, .func (PySem.W.fnOf "_law_sign" "_law_sign" (defArgs s__law_sign) (defBody s__law_sign) (defScope s__law_sign) .none kV20 dc20 pm20 an20 cd20 ct20), sl20⟩) (c20 : PySem.W.codeIn K cd20 "_law_sign" = true) (k20 : PySem.W.keepIn K (.ref f20) = true)
    {f21 : Addr} {od21 an21 : Option Addr} {sl21 : Array (Option Value)} {oc21 kV21 dc21 pm21 cd21 ct21 : Value}
    (a21 : PySem.W.nsIn K mainGlobals "_law_text" = some (some (.ref f21))) (l21 : K.lookup f21 = some ⟨oc21, od21, .func (PySem.W.fnOf "_law_text" "_law_text" (defArgs s__law_text) (defBody s__law_text) (defScope s__law_text) .none kV21 dc21 pm21 an21 cd21 ct21), sl21⟩) (c21 : PySem.W.codeIn K cd21 "_law_text" = true) (k21 : PySem.W.keepIn K (.ref f21) = true)
    {f22 : Addr} {od22 an22 : Option Addr} {sl22 : Array (Option Value)} {oc22 kV22 dc22 pm22 cd22 ct22 : Value}
    (a22 : PySem.W.nsIn K mainGlobals "_law_changes" = some (some (.ref f22))) (l22 : K.lookup f22 = some ⟨oc22, od22, .func (PySem.W.fnOf "_law_changes" "_law_changes" (defArgs s__law_changes) (defBody s__law_changes) (defScope s__law_changes) .none kV22 dc22 pm22 an22 cd22 ct22), sl22⟩) (c22 : PySem.W.codeIn K cd22 "_law_changes" = true) (k22 : PySem.W.keepIn K (.ref f22) = true)
    {f23 : Addr} {od23 an23 : Option Addr} {sl23 : Array (Option Value)} {oc23 kV23 dc23 pm23 cd23 ct23 : Value}
    (a23 : PySem.W.nsIn K mainGlobals "_law_rows" = some (some (.ref f23))) (l23 : K.lookup f23 = some ⟨oc23, od23, .func (PySem.W.fnOf "_law_rows" "_law_rows" (defArgs s__law_rows) (defBody s__law_rows) (defScope s__law_rows) .none kV23 dc23 pm23 an23 cd23 ct23), sl23⟩) (c23 : PySem.W.codeIn K cd23 "_law_rows" = true) (k23 : PySem.W.keepIn K (.ref f23) = true)
    {f24 : Addr} {od24 an24 : Option Addr} {sl24 : Array (Option Value)} {oc24 kV24 dc24 pm24 cd24 ct24 : Value}
    (a24 : PySem.W.nsIn K mainGlobals "_law_number" = some (some (.ref f24))) (l24 : K.lookup f24 = some ⟨oc24, od24, .func (PySem.W.fnOf "_law_number" "_law_number" (defArgs s__law_number) (defBody s__law_number) (defScope s__law_number) .none kV24 dc24 pm24 an24 cd24 ct24), sl24⟩) (c24 : PySem.W.codeIn K cd24 "_law_number" = true) (k24 : PySem.W.keepIn K (.ref f24) = true)
    {f25 : Addr} {od25 an25 : Option Addr} {sl25 : Array (Option Value)} {oc25 kV25 dc25 pm25 cd25 ct25 : Value}
    (a25 : PySem.W.nsIn K mainGlobals "_law_read_rows" = some (some (.ref f25))) (l25 : K.lookup f25 = some ⟨oc25, od25, .func (PySem.W.fnOf "_law_read_rows" "_law_read_rows" (defArgs s__law_read_rows) (defBody s__law_read_rows) (defScope s__law_read_rows) .none kV25 dc25 pm25 an25 cd25 ct25), sl25⟩) (c25 : PySem.W.codeIn K cd25 "_law_read_rows" = true) (k25 : PySem.W.keepIn K (.ref f25) = true)
    {f26 : Addr} {od26 an26 : Option Addr} {sl26 : Array (Option Value)} {oc26 kV26 dc26 pm26 cd26 ct26 : Value}
    (a26 : PySem.W.nsIn K mainGlobals "_law_digits" = some (some (.ref f26))) (l26 : K.lookup f26 = some ⟨oc26, od26, .func (PySem.W.fnOf "_law_digits" "_law_digits" (defArgs s__law_digits) (defBody s__law_digits) (defScope s__law_digits) .none kV26 dc26 pm26 an26 cd26 ct26), sl26⟩) (c26 : PySem.W.codeIn K cd26 "_law_digits" = true) (k26 : PySem.W.keepIn K (.ref f26) = true)
    {f27 : Addr} {od27 an27 : Option Addr} {sl27 : Array (Option Value)} {oc27 kV27 dc27 pm27 cd27 ct27 : Value}
    (a27 : PySem.W.nsIn K mainGlobals "_law_written" = some (some (.ref f27))) (l27 : K.lookup f27 = some ⟨oc27, od27, .func (PySem.W.fnOf "_law_written" "_law_written" (defArgs s__law_written) (defBody s__law_written) (defScope s__law_written) .none kV27 dc27 pm27 an27 cd27 ct27), sl27⟩) (c27 : PySem.W.codeIn K cd27 "_law_written" = true) (k27 : PySem.W.keepIn K (.ref f27) = true)
    {f28 : Addr} {od28 an28 : Option Addr} {sl28 : Array (Option Value)} {oc28 kV28 dc28 pm28 cd28 ct28 : Value}
    (a28 : PySem.W.nsIn K mainGlobals "_law_read" = some (some (.ref f28))) (l28 : K.lookup f28 = some ⟨oc28, od28, .func (PySem.W.fnOf "_law_read" "_law_read" (defArgs s__law_read) (defBody s__law_read) (defScope s__law_read) .none kV28 dc28 pm28 an28 cd28 ct28), sl28⟩) (c28 : PySem.W.codeIn K cd28 "_law_read" = true) (k28 : PySem.W.keepIn K (.ref f28) = true)
    {f29 : Addr} {od29 an29 : Option Addr} {sl29 : Array (Option Value)} {oc29 kV29 dc29 pm29 cd29 ct29 : Value}
    (a29 : PySem.W.nsIn K mainGlobals "_law_letter" = some (some (.ref f29))) (l29 : K.lookup f29 = some ⟨oc29, od29, .func (PySem.W.fnOf "_law_letter" "_law_letter" (defArgs s__law_letter) (defBody s__law_letter) (defScope s__law_letter) .none kV29 dc29 pm29 an29 cd29 ct29), sl29⟩) (c29 : PySem.W.codeIn K cd29 "_law_letter" = true) (k29 : PySem.W.keepIn K (.ref f29) = true)
    {f30 : Addr} {od30 an30 : Option Addr} {sl30 : Array (Option Value)} {oc30 kV30 dc30 pm30 cd30 ct30 : Value}
    (a30 : PySem.W.nsIn K mainGlobals "_law_no_rows" = some (some (.ref f30))) (l30 : K.lookup f30 = some ⟨oc30, od30, .func (PySem.W.fnOf "_law_no_rows" "_law_no_rows" (defArgs s__law_no_rows) (defBody s__law_no_rows) (defScope s__law_no_rows) .none kV30 dc30 pm30 an30 cd30 ct30), sl30⟩) (c30 : PySem.W.codeIn K cd30 "_law_no_rows" = true) (k30 : PySem.W.keepIn K (.ref f30) = true)
    {f31 : Addr} {od31 an31 : Option Addr} {sl31 : Array (Option Value)} {oc31 kV31 dc31 pm31 cd31 ct31 : Value}
    (a31 : PySem.W.nsIn K mainGlobals "_law_bent" = some (some (.ref f31))) (l31 : K.lookup f31 = some ⟨oc31, od31, .func (PySem.W.fnOf "_law_bent" "_law_bent" (defArgs s__law_bent) (defBody s__law_bent) (defScope s__law_bent) .none kV31 dc31 pm31 an31 cd31 ct31), sl31⟩) (c31 : PySem.W.codeIn K cd31 "_law_bent" = true) (k31 : PySem.W.keepIn K (.ref f31) = true)
    {f32 : Addr} {od32 an32 : Option Addr} {sl32 : Array (Option Value)} {oc32 kV32 dc32 pm32 cd32 ct32 : Value}
    (a32 : PySem.W.nsIn K mainGlobals "_law_spoilt" = some (some (.ref f32))) (l32 : K.lookup f32 = some ⟨oc32, od32, .func (PySem.W.fnOf "_law_spoilt" "_law_spoilt" (defArgs s__law_spoilt) (defBody s__law_spoilt) (defScope s__law_spoilt) .none kV32 dc32 pm32 an32 cd32 ct32), sl32⟩) (c32 : PySem.W.codeIn K cd32 "_law_spoilt" = true) (k32 : PySem.W.keepIn K (.ref f32) = true)
    {f33 : Addr} {od33 an33 : Option Addr} {sl33 : Array (Option Value)} {oc33 kV33 dc33 pm33 cd33 ct33 : Value}
    (a33 : PySem.W.nsIn K mainGlobals "_law_told" = some (some (.ref f33))) (l33 : K.lookup f33 = some ⟨oc33, od33, .func (PySem.W.fnOf "_law_told" "_law_told" (defArgs s__law_told) (defBody s__law_told) (defScope s__law_told) .none kV33 dc33 pm33 an33 cd33 ct33), sl33⟩) (c33 : PySem.W.codeIn K cd33 "_law_told" = true) (k33 : PySem.W.keepIn K (.ref f33) = true)
    {f34 : Addr} {od34 an34 : Option Addr} {sl34 : Array (Option Value)} {oc34 kV34 dc34 pm34 cd34 ct34 : Value}
    (a34 : PySem.W.nsIn K mainGlobals "_law_no_text" = some (some (.ref f34))) (l34 : K.lookup f34 = some ⟨oc34, od34, .func (PySem.W.fnOf "_law_no_text" "_law_no_text" (defArgs s__law_no_text) (defBody s__law_no_text) (defScope s__law_no_text) .none kV34 dc34 pm34 an34 cd34 ct34), sl34⟩) (c34 : PySem.W.codeIn K cd34 "_law_no_text" = true) (k34 : PySem.W.keepIn K (.ref f34) = true)
    {f35 : Addr} {od35 an35 : Option Addr} {sl35 : Array (Option Value)} {oc35 kV35 dc35 pm35 cd35 ct35 : Value}
    (a35 : PySem.W.nsIn K mainGlobals "_law_no_letter" = some (some (.ref f35))) (l35 : K.lookup f35 = some ⟨oc35, od35, .func (PySem.W.fnOf "_law_no_letter" "_law_no_letter" (defArgs s__law_no_letter) (defBody s__law_no_letter) (defScope s__law_no_letter) .none kV35 dc35 pm35 an35 cd35 ct35), sl35⟩) (c35 : PySem.W.codeIn K cd35 "_law_no_letter" = true) (k35 : PySem.W.keepIn K (.ref f35) = true)
    {f36 : Addr} {od36 an36 : Option Addr} {sl36 : Array (Option Value)} {oc36 kV36 dc36 pm36 cd36 ct36 : Value}
    (a36 : PySem.W.nsIn K mainGlobals "law" = some (some (.ref f36))) (l36 : K.lookup f36 = some ⟨oc36, od36, .func (PySem.W.fnOf "law" "law" (defArgs s_law) (defBody s_law) (defScope s_law) .none kV36 dc36 pm36 an36 cd36 ct36), sl36⟩) (c36 : PySem.W.codeIn K cd36 "law" = true) (k36 : PySem.W.keepIn K (.ref f36) = true)
    (z0 : PySem.W.nsIn K mainGlobals "abs" = some none)
    (z1 : PySem.W.nsIn K mainGlobals "all" = some none)
    (z2 : PySem.W.nsIn K mainGlobals "int" = some none)
    (z3 : PySem.W.nsIn K mainGlobals "isinstance" = some none)
    (z4 : PySem.W.nsIn K mainGlobals "len" = some none)
    (z5 : PySem.W.nsIn K mainGlobals "list" = some none)
    (z6 : PySem.W.nsIn K mainGlobals "max" = some none)
    (z7 : PySem.W.nsIn K mainGlobals "range" = some none)
    (z8 : PySem.W.nsIn K mainGlobals "sorted" = some none)
    (z9 : PySem.W.nsIn K mainGlobals "str" = some none)
    (z10 : PySem.W.nsIn K mainGlobals "tuple" = some none)
    (z11 : PySem.W.nsIn K mainGlobals "type" = some none)
    (z12 : PySem.W.nsIn K mainGlobals "zip" = some none)
    {t0 : Tok} (q0 : PySem.W.nsIn K mainGlobals "MOST_NUMBER" = some (some (.int 99999999 t0)))
    {t1 : Tok} (q1 : PySem.W.nsIn K mainGlobals "MOST_PIECES" = some (some (.int 9999 t1)))
    {t2 : Tok} (q2 : PySem.W.nsIn K mainGlobals "MOST_SIGNS" = some (some (.int 9999 t2)))
    {x_InvalidLetter : Addr} (xa_InvalidLetter : PySem.W.nsIn K mainGlobals "InvalidLetter" = some (some (.ref x_InvalidLetter))) (xe_InvalidLetter : PySem.W.excIn K x_InvalidLetter [.type "ValueError", .type "Exception", .type "BaseException", .type "object"] "ValueError.__new__" = true) (xk_InvalidLetter : PySem.W.keepIn K (.ref x_InvalidLetter) = true) (xs_InvalidLetter : PySem.W.subIn K (.ref x_InvalidLetter) (.type "BaseException") = some true) (xt_InvalidLetter : PySem.W.typeIn K (.ref x_InvalidLetter) = some (.type "type")) (xy_InvalidLetter : PySem.W.subIn K (.ref x_InvalidLetter) (.type "BaseException") = some true) (xi_InvalidLetter : PySem.W.isClsIn K x_InvalidLetter = true) (xz_InvalidLetter : PySem.W.typeIn K (.ref x_InvalidLetter) = some (.type "type"))
    {x_InvalidText : Addr} (xa_InvalidText : PySem.W.nsIn K mainGlobals "InvalidText" = some (some (.ref x_InvalidText))) (xe_InvalidText : PySem.W.excIn K x_InvalidText [.type "ValueError", .type "Exception", .type "BaseException", .type "object"] "ValueError.__new__" = true) (xk_InvalidText : PySem.W.keepIn K (.ref x_InvalidText) = true) (xs_InvalidText : PySem.W.subIn K (.ref x_InvalidText) (.type "BaseException") = some true) (xt_InvalidText : PySem.W.typeIn K (.ref x_InvalidText) = some (.type "type")) (xy_InvalidText : PySem.W.subIn K (.ref x_InvalidText) (.type "BaseException") = some true) (xi_InvalidText : PySem.W.isClsIn K x_InvalidText = true) (xz_InvalidText : PySem.W.typeIn K (.ref x_InvalidText) = some (.type "type"))
    (xp_InvalidLetter_InvalidLetter : PySem.W.subIn K (.ref x_InvalidLetter) (.ref x_InvalidLetter) = some true)
    (xp_InvalidLetter_InvalidText : PySem.W.subIn K (.ref x_InvalidLetter) (.ref x_InvalidText) = some false)
    (xp_InvalidText_InvalidLetter : PySem.W.subIn K (.ref x_InvalidText) (.ref x_InvalidLetter) = some false)
    (xp_InvalidText_InvalidText : PySem.W.subIn K (.ref x_InvalidText) (.ref x_InvalidText) = some true) : Fx K mg :=
  {a_is_text := f0, fd_is_text := _, F_is_text := fun_mk (st := s_is_text) l0 c0 k0, g_is_text := PySem.W.mg_of X G a0, b_is_text := (fun_mk (st := s_is_text) l0 c0 k0).binds (ps := ["value"]) fun _ _ _ _ _ _ us hl => match us, hl with | [_], _ => rfl,
    a_number_at := f1, fd_number_at := _, F_number_at := fun_mk (st := s_number_at) l1 c1 k1, g_number_at := PySem.W.mg_of X G a1, b_number_at := (fun_mk (st := s_number_at) l1 c1 k1).binds (ps := ["text", "at", "size"]) fun _ _ _ _ _ _ us hl => match us, hl with | [_, _, _], _ => rfl,
    a_is_changes := f2, fd_is_changes := _, F_is_changes := fun_mk (st := s_is_changes) l2 c2 k2, g_is_changes := PySem.W.mg_of X G a2, b_is_changes := (fun_mk (st := s_is_changes) l2 c2 k2).binds (ps := ["value"]) fun _ _ _ _ _ _ us hl => match us, hl with | [_], _ => rfl,
    a_is_change := f3, fd_is_change := _, F_is_change := fun_mk (st := s_is_change) l3 c3 k3, g_is_change := PySem.W.mg_of X G a3, b_is_change := (fun_mk (st := s_is_change) l3 c3 k3).binds (ps := ["value"]) fun _ _ _ _ _ _ us hl => match us, hl with | [_], _ => rfl,
    a_is_entries := f4, fd_is_entries := _, F_is_entries := fun_mk (st := s_is_entries) l4 c4 k4, g_is_entries := PySem.W.mg_of X G a4, b_is_entries := (fun_mk (st := s_is_entries) l4 c4 k4).binds (ps := ["value"]) fun _ _ _ _ _ _ us hl => match us, hl with | [_], _ => rfl,
    a_change_text := f5, fd_change_text := _, F_change_text := fun_mk (st := s_change_text) l5 c5 k5, g_change_text := PySem.W.mg_of X G a5, b_change_text := (fun_mk (st := s_change_text) l5 c5 k5).binds (ps := ["change"]) fun _ _ _ _ _ _ us hl => match us, hl with | [_], _ => rfl,
    a_changes_told := f6, fd_changes_told := _, F_changes_told := fun_mk (st := s_changes_told) l6 c6 k6, g_changes_told := PySem.W.mg_of X G a6, b_changes_told := (fun_mk (st := s_changes_told) l6 c6 k6).binds (ps := ["text", "at"]) fun _ _ _ _ _ _ us hl => match us, hl with | [_, _], _ => rfl,
    a_change_from := f7, fd_change_from := _, F_change_from := fun_mk (st := s_change_from) l7 c7 k7, g_change_from := PySem.W.mg_of X G a7, b_change_from := (fun_mk (st := s_change_from) l7 c7 k7).binds (ps := ["text", "at"]) fun _ _ _ _ _ _ us hl => match us, hl with | [_, _], _ => rfl,
    a_part_from := f8, fd_part_from := _, F_part_from := fun_mk (st := s_part_from) l8 c8 k8, g_part_from := PySem.W.mg_of X G a8, b_part_from := (fun_mk (st := s_part_from) l8 c8 k8).binds (ps := ["text", "at"]) fun _ _ _ _ _ _ us hl => match us, hl with | [_, _], _ => rfl,
    a_is_number := f9, fd_is_number := _, F_is_number := fun_mk (st := s_is_number) l9 c9 k9, g_is_number := PySem.W.mg_of X G a9, b_is_number := (fun_mk (st := s_is_number) l9 c9 k9).binds (ps := ["value", "low", "high"]) fun _ _ _ _ _ _ us hl => match us, hl with | [_, _, _], _ => rfl,
    a_check_text := f10, fd_check_text := _, F_check_text := fun_mk (st := s_check_text) l10 c10 k10, g_check_text := PySem.W.mg_of X G a10, b_check_text := (fun_mk (st := s_check_text) l10 c10 k10).binds (ps := ["text"]) fun _ _ _ _ _ _ us hl => match us, hl with | [_], _ => rfl,
    a_is_letter := f11, fd_is_letter := _, F_is_letter := fun_mk (st := s_is_letter) l11 c11 k11, g_is_letter := PySem.W.mg_of X G a11, b_is_letter := (fun_mk (st := s_is_letter) l11 c11 k11).binds (ps := ["value"]) fun _ _ _ _ _ _ us hl => match us, hl with | [_], _ => rfl,
    a_are_lines := f12, fd_are_lines := _, F_are_lines := fun_mk (st := s_are_lines) l12 c12 k12, g_are_lines := PySem.W.mg_of X G a12, b_are_lines := (fun_mk (st := s_are_lines) l12 c12 k12).binds (ps := ["rows", "are_right"]) fun _ _ _ _ _ _ us hl => match us, hl with | [_, _], _ => rfl,
    a_check_letter := f13, fd_check_letter := _, F_check_letter := fun_mk (st := s_check_letter) l13 c13 k13, g_check_letter := PySem.W.mg_of X G a13, b_check_letter := (fun_mk (st := s_check_letter) l13 c13 k13).binds (ps := ["letter"]) fun _ _ _ _ _ _ us hl => match us, hl with | [_], _ => rfl,
    a_letter_text := f14, fd_letter_text := _, F_letter_text := fun_mk (st := s_letter_text) l14 c14 k14, g_letter_text := PySem.W.mg_of X G a14, b_letter_text := (fun_mk (st := s_letter_text) l14 c14 k14).binds (ps := ["letter"]) fun _ _ _ _ _ _ us hl => match us, hl with | [_], _ => rfl,
    a_letter_told := f15, fd_letter_told := _, F_letter_told := fun_mk (st := s_letter_told) l15 c15 k15, g_letter_told := PySem.W.mg_of X G a15, b_letter_told := (fun_mk (st := s_letter_told) l15 c15 k15).binds (ps := ["text"]) fun _ _ _ _ _ _ us hl => match us, hl with | [_], _ => rfl,
    a_letter_from := f16, fd_letter_from := _, F_letter_from := fun_mk (st := s_letter_from) l16 c16 k16, g_letter_from := PySem.W.mg_of X G a16, b_letter_from := (fun_mk (st := s_letter_from) l16 c16 k16).binds (ps := ["text"]) fun _ _ _ _ _ _ us hl => match us, hl with | [_], _ => rfl,
    a__law_well := f17, fd__law_well := _, F__law_well := fun_mk (st := s__law_well) l17 c17 k17, g__law_well := PySem.W.mg_of X G a17, b__law_well := (fun_mk (st := s__law_well) l17 c17 k17).binds (ps := ["_law_cell"]) fun _ _ _ _ _ _ us hl => match us, hl with | [_], _ => rfl,
    a__law_draw := f18, fd__law_draw := _, F__law_draw := fun_mk (st := s__law_draw) l18 c18 k18, g__law_draw := PySem.W.mg_of X G a18, b__law_draw := (fun_mk (st := s__law_draw) l18 c18 k18).binds (ps := ["_law_well_here", "_law_many"]) fun _ _ _ _ _ _ us hl => match us, hl with | [_, _], _ => rfl,
    a__law_same := f19, fd__law_same := _, F__law_same := fun_mk (st := s__law_same) l19 c19 k19, g__law_same := PySem.W.mg_of X G a19, b__law_same := (fun_mk (st := s__law_same) l19 c19 k19).binds (ps := ["_law_found", "_law_due"]) fun _ _ _ _ _ _ us hl => match us, hl with | [_, _], _ => rfl,
    a__law_sign := f20, fd__law_sign := _, F__law_sign := fun_mk (st := s__law_sign) l20 c20 k20, g__law_sign := PySem.W.mg_of X G a20, b__law_sign := (fun_mk (st := s__law_sign) l20 c20 k20).binds (ps := ["_law_well_here"]) fun _ _ _ _ _ _ us hl => match us, hl with | [_], _ => rfl,
    a__law_text := f21, fd__law_text := _, F__law_text := fun_mk (st := s__law_text) l21 c21 k21, g__law_text := PySem.W.mg_of X G a21, b__law_text := (fun_mk (st := s__law_text) l21 c21 k21).binds (ps := ["_law_well_here", "_law_most"]) fun _ _ _ _ _ _ us hl => match us, hl with | [_, _], _ => rfl,
    a__law_changes := f22, fd__law_changes := _, F__law_changes := fun_mk (st := s__law_changes) l22 c22 k22, g__law_changes := PySem.W.mg_of X G a22, b__law_changes := (fun_mk (st := s__law_changes) l22 c22 k22).binds (ps := ["_law_well_here", "_law_least", "_law_most"]) fun _ _ _ _ _ _ us hl => match us, hl with | [_, _, _], _ => rfl,
    a__law_rows := f23, fd__law_rows := _, F__law_rows := fun_mk (st := s__law_rows) l23 c23 k23, g__law_rows := PySem.W.mg_of X G a23, b__law_rows := (fun_mk (st := s__law_rows) l23 c23 k23).binds (ps := ["_law_changes_here"]) fun _ _ _ _ _ _ us hl => match us, hl with | [_], _ => rfl,
    a__law_number := f24, fd__law_number := _, F__law_number := fun_mk (st := s__law_number) l24 c24 k24, g__law_number := PySem.W.mg_of X G a24, b__law_number := (fun_mk (st := s__law_number) l24 c24 k24).binds (ps := ["_law_text_here", "_law_at", "_law_many"]) fun _ _ _ _ _ _ us hl => match us, hl with | [_, _, _], _ => rfl,
    a__law_read_rows := f25, fd__law_read_rows := _, F__law_read_rows := fun_mk (st := s__law_read_rows) l25 c25 k25, g__law_read_rows := PySem.W.mg_of X G a25, b__law_read_rows := (fun_mk (st := s__law_read_rows) l25 c25 k25).binds (ps := ["_law_text_here"]) fun _ _ _ _ _ _ us hl => match us, hl with | [_], _ => rfl,
    a__law_digits := f26, fd__law_digits := _, F__law_digits := fun_mk (st := s__law_digits) l26 c26 k26, g__law_digits := PySem.W.mg_of X G a26, b__law_digits := (fun_mk (st := s__law_digits) l26 c26 k26).binds (ps := ["_law_number_here", "_law_many"]) fun _ _ _ _ _ _ us hl => match us, hl with | [_, _], _ => rfl,
    a__law_written := f27, fd__law_written := _, F__law_written := fun_mk (st := s__law_written) l27 c27 k27, g__law_written := PySem.W.mg_of X G a27, b__law_written := (fun_mk (st := s__law_written) l27 c27 k27).binds (ps := ["_law_letter_here"]) fun _ _ _ _ _ _ us hl => match us, hl with | [_], _ => rfl,
    a__law_read := f28, fd__law_read := _, F__law_read := fun_mk (st := s__law_read) l28 c28 k28, g__law_read := PySem.W.mg_of X G a28, b__law_read := (fun_mk (st := s__law_read) l28 c28 k28).binds (ps := ["_law_text_here"]) fun _ _ _ _ _ _ us hl => match us, hl with | [_], _ => rfl,
    a__law_letter := f29, fd__law_letter := _, F__law_letter := fun_mk (st := s__law_letter) l29 c29 k29, g__law_letter := PySem.W.mg_of X G a29, b__law_letter := (fun_mk (st := s__law_letter) l29 c29 k29).binds (ps := ["_law_well_here"]) fun _ _ _ _ _ _ us hl => match us, hl with | [_], _ => rfl,
    a__law_no_rows := f30, fd__law_no_rows := _, F__law_no_rows := fun_mk (st := s__law_no_rows) l30 c30 k30, g__law_no_rows := PySem.W.mg_of X G a30, b__law_no_rows := (fun_mk (st := s__law_no_rows) l30 c30 k30).binds (ps := ["_law_well_here"]) fun _ _ _ _ _ _ us hl => match us, hl with | [_], _ => rfl,
    a__law_bent := f31, fd__law_bent := _, F__law_bent := fun_mk (st := s__law_bent) l31 c31 k31, g__law_bent := PySem.W.mg_of X G a31, b__law_bent := (fun_mk (st := s__law_bent) l31 c31 k31).binds (ps := ["_law_well_here", "_law_letter_here"]) fun _ _ _ _ _ _ us hl => match us, hl with | [_, _], _ => rfl,
    a__law_spoilt := f32, fd__law_spoilt := _, F__law_spoilt := fun_mk (st := s__law_spoilt) l32 c32 k32, g__law_spoilt := PySem.W.mg_of X G a32, b__law_spoilt := (fun_mk (st := s__law_spoilt) l32 c32 k32).binds (ps := ["_law_well_here", "_law_text_here"]) fun _ _ _ _ _ _ us hl => match us, hl with | [_, _], _ => rfl,
    a__law_told := f33, fd__law_told := _, F__law_told := fun_mk (st := s__law_told) l33 c33 k33, g__law_told := PySem.W.mg_of X G a33, b__law_told := (fun_mk (st := s__law_told) l33 c33 k33).binds (ps := ["_law_text_here"]) fun _ _ _ _ _ _ us hl => match us, hl with | [_], _ => rfl,
    a__law_no_text := f34, fd__law_no_text := _, F__law_no_text := fun_mk (st := s__law_no_text) l34 c34 k34, g__law_no_text := PySem.W.mg_of X G a34, b__law_no_text := (fun_mk (st := s__law_no_text) l34 c34 k34).binds (ps := ["_law_value"]) fun _ _ _ _ _ _ us hl => match us, hl with | [_], _ => rfl,
    a__law_no_letter := f35, fd__law_no_letter := _, F__law_no_letter := fun_mk (st := s__law_no_letter) l35 c35 k35, g__law_no_letter := PySem.W.mg_of X G a35, b__law_no_letter := (fun_mk (st := s__law_no_letter) l35 c35 k35).binds (ps := ["_law_value"]) fun _ _ _ _ _ _ us hl => match us, hl with | [_], _ => rfl,
    a_law := f36, fd_law := _, F_law := fun_mk (st := s_law) l36 c36 k36, g_law := PySem.W.mg_of X G a36, b_law := (fun_mk (st := s_law) l36 c36 k36).binds (ps := ["_law_script"]) fun _ _ _ _ _ _ us hl => match us, hl with | [_], _ => rfl,
    kb_is_letter_0 := kbm_kb_is_letter_0 (fun_mk (st := s_is_letter) l11 c11 k11),
    kb_letter_text_0 := kbm_kb_letter_text_0 (fun_mk (st := s_letter_text) l14 c14 k14),
    kb_letter_told_0 := kbm_kb_letter_told_0 (fun_mk (st := s_letter_told) l15 c15 k15),
    m_abs := PySem.W.mg_none_of X G z0,
    m_all := PySem.W.mg_none_of X G z1,
    m_int := PySem.W.mg_none_of X G z2,
    m_isinstance := PySem.W.mg_none_of X G z3,
    m_len := PySem.W.mg_none_of X G z4,
    m_list := PySem.W.mg_none_of X G z5,
    m_max := PySem.W.mg_none_of X G z6,
    m_range := PySem.W.mg_none_of X G z7,
    m_sorted := PySem.W.mg_none_of X G z8,
    m_str := PySem.W.mg_none_of X G z9,
    m_tuple := PySem.W.mg_none_of X G z10,
    m_type := PySem.W.mg_none_of X G z11,
    m_zip := PySem.W.mg_none_of X G z12,
    c_MOST_NUMBER := ⟨t0, PySem.W.mg_of X G q0⟩,
    c_MOST_PIECES := ⟨t1, PySem.W.mg_of X G q1⟩,
    c_MOST_SIGNS := ⟨t2, PySem.W.mg_of X G q2⟩,
    x_InvalidLetter := x_InvalidLetter, q_InvalidLetter := PySem.W.mg_of X G xa_InvalidLetter,
    e_InvalidLetter := xe_InvalidLetter, k_InvalidLetter := xk_InvalidLetter, s_InvalidLetter := xs_InvalidLetter, t_InvalidLetter := xt_InvalidLetter,
    x_InvalidText := x_InvalidText, q_InvalidText := PySem.W.mg_of X G xa_InvalidText,
    e_InvalidText := xe_InvalidText, k_InvalidText := xk_InvalidText, s_InvalidText := xs_InvalidText, t_InvalidText := xt_InvalidText,
    m_InvalidLetter_InvalidLetter := exm_pair xy_InvalidLetter xi_InvalidLetter xz_InvalidLetter xp_InvalidLetter_InvalidLetter,
    m_InvalidLetter_InvalidText := exm_pair xy_InvalidText xi_InvalidText xz_InvalidText xp_InvalidLetter_InvalidText,
    m_InvalidText_InvalidLetter := exm_pair xy_InvalidLetter xi_InvalidLetter xz_InvalidLetter xp_InvalidText_InvalidLetter,
    m_InvalidText_InvalidText := exm_pair xy_InvalidText xi_InvalidText xz_InvalidText xp_InvalidText_InvalidText }
theorem all_mk {l : PySem.W.OpenLaw} {w : World} {K : PySem.W.Frag} {h : Heap} {mg : Str → Option Value} {fa : Addr} (X : K.In h) (G : h.Ns mainGlobals mg) (hfa : mg "law" = some (.ref fa))
    {f0 : Addr} {od0 an0 : Option Addr} {sl0 : Array (Option Value)} {oc0 kV0 dc0 pm0 cd0 ct0 : Value}
    (a0 : PySem.W.nsIn K mainGlobals "is_text" = some (some (.ref f0))) (l0 : K.lookup f0 = some ⟨oc0, od0, .func (PySem.W.fnOf "is_text" "is_text" (defArgs s_is_text) (defBody s_is_text) (defScope s_is_text) .none kV0 dc0 pm0 an0 cd0 ct0), sl0⟩) (c0 : PySem.W.codeIn K cd0 "is_text" = true) (k0 : PySem.W.keepIn K (.ref f0) = true)
    {f1 : Addr} {od1 an1 : Option Addr} {sl1 : Array (Option Value)} {oc1 kV1 dc1 pm1 cd1 ct1 : Value}
    (a1 : PySem.W.nsIn K mainGlobals "number_at" = some (some (.ref f1))) (l1 : K.lookup f1 = some ⟨oc1, od1, .func (PySem.W.fnOf "number_at" "number_at" (defArgs s_number_at) (defBody s_number_at) (defScope s_number_at) .none kV1 dc1 pm1 an1 cd1 ct1), sl1⟩) (c1 : PySem.W.codeIn K cd1 "number_at" = true) (k1 : PySem.W.keepIn K (.ref f1) = true)
    {f2 : Addr} {od2 an2 : Option Addr} {sl2 : Array (Option Value)} {oc2 kV2 dc2 pm2 cd2 ct2 : Value}
    (a2 : PySem.W.nsIn K mainGlobals "is_changes" = some (some (.ref f2))) (l2 : K.lookup f2 = some ⟨oc2, od2, .func (PySem.W.fnOf "is_changes" "is_changes" (defArgs s_is_changes) (defBody s_is_changes) (defScope s_is_changes) .none kV2 dc2 pm2 an2 cd2 ct2), sl2⟩) (c2 : PySem.W.codeIn K cd2 "is_changes" = true) (k2 : PySem.W.keepIn K (.ref f2) = true)
    {f3 : Addr} {od3 an3 : Option Addr} {sl3 : Array (Option Value)} {oc3 kV3 dc3 pm3 cd3 ct3 : Value}
    (a3 : PySem.W.nsIn K mainGlobals "is_change" = some (some (.ref f3))) (l3 : K.lookup f3 = some ⟨oc3, od3, .func (PySem.W.fnOf "is_change" "is_change" (defArgs s_is_change) (defBody s_is_change) (defScope s_is_change) .none kV3 dc3 pm3 an3 cd3 ct3), sl3⟩) (c3 : PySem.W.codeIn K cd3 "is_change" = true) (k3 : PySem.W.keepIn K (.ref f3) = true)
    {f4 : Addr} {od4 an4 : Option Addr} {sl4 : Array (Option Value)} {oc4 kV4 dc4 pm4 cd4 ct4 : Value}
    (a4 : PySem.W.nsIn K mainGlobals "is_entries" = some (some (.ref f4))) (l4 : K.lookup f4 = some ⟨oc4, od4, .func (PySem.W.fnOf "is_entries" "is_entries" (defArgs s_is_entries) (defBody s_is_entries) (defScope s_is_entries) .none kV4 dc4 pm4 an4 cd4 ct4), sl4⟩) (c4 : PySem.W.codeIn K cd4 "is_entries" = true) (k4 : PySem.W.keepIn K (.ref f4) = true)
    {f5 : Addr} {od5 an5 : Option Addr} {sl5 : Array (Option Value)} {oc5 kV5 dc5 pm5 cd5 ct5 : Value}
    (a5 : PySem.W.nsIn K mainGlobals "change_text" = some (some (.ref f5))) (l5 : K.lookup f5 = some ⟨oc5, od5, .func (PySem.W.fnOf "change_text" "change_text" (defArgs s_change_text) (defBody s_change_text) (defScope s_change_text) .none kV5 dc5 pm5 an5 cd5 ct5), sl5⟩) (c5 : PySem.W.codeIn K cd5 "change_text" = true) (k5 : PySem.W.keepIn K (.ref f5) = true)
    {f6 : Addr} {od6 an6 : Option Addr} {sl6 : Array (Option Value)} {oc6 kV6 dc6 pm6 cd6 ct6 : Value}
    (a6 : PySem.W.nsIn K mainGlobals "changes_told" = some (some (.ref f6))) (l6 : K.lookup f6 = some ⟨oc6, od6, .func (PySem.W.fnOf "changes_told" "changes_told" (defArgs s_changes_told) (defBody s_changes_told) (defScope s_changes_told) .none kV6 dc6 pm6 an6 cd6 ct6), sl6⟩) (c6 : PySem.W.codeIn K cd6 "changes_told" = true) (k6 : PySem.W.keepIn K (.ref f6) = true)
    {f7 : Addr} {od7 an7 : Option Addr} {sl7 : Array (Option Value)} {oc7 kV7 dc7 pm7 cd7 ct7 : Value}
    (a7 : PySem.W.nsIn K mainGlobals "change_from" = some (some (.ref f7))) (l7 : K.lookup f7 = some ⟨oc7, od7, .func (PySem.W.fnOf "change_from" "change_from" (defArgs s_change_from) (defBody s_change_from) (defScope s_change_from) .none kV7 dc7 pm7 an7 cd7 ct7), sl7⟩) (c7 : PySem.W.codeIn K cd7 "change_from" = true) (k7 : PySem.W.keepIn K (.ref f7) = true)
    {f8 : Addr} {od8 an8 : Option Addr} {sl8 : Array (Option Value)} {oc8 kV8 dc8 pm8 cd8 ct8 : Value}
    (a8 : PySem.W.nsIn K mainGlobals "part_from" = some (some (.ref f8))) (l8 : K.lookup f8 = some ⟨oc8, od8, .func (PySem.W.fnOf "part_from" "part_from" (defArgs s_part_from) (defBody s_part_from) (defScope s_part_from) .none kV8 dc8 pm8 an8 cd8 ct8), sl8⟩) (c8 : PySem.W.codeIn K cd8 "part_from" = true) (k8 : PySem.W.keepIn K (.ref f8) = true)
    {f9 : Addr} {od9 an9 : Option Addr} {sl9 : Array (Option Value)} {oc9 kV9 dc9 pm9 cd9 ct9 : Value}
    (a9 : PySem.W.nsIn K mainGlobals "is_number" = some (some (.ref f9))) (l9 : K.lookup f9 = some ⟨oc9, od9, .func (PySem.W.fnOf "is_number" "is_number" (defArgs s_is_number) (defBody s_is_number) (defScope s_is_number) .none kV9 dc9 pm9 an9 cd9 ct9), sl9⟩) (c9 : PySem.W.codeIn K cd9 "is_number" = true) (k9 : PySem.W.keepIn K (.ref f9) = true)
    {f10 : Addr} {od10 an10 : Option Addr} {sl10 : Array (Option Value)} {oc10 kV10 dc10 pm10 cd10 ct10 : Value}
    (a10 : PySem.W.nsIn K mainGlobals "check_text" = some (some (.ref f10))) (l10 : K.lookup f10 = some ⟨oc10, od10, .func (PySem.W.fnOf "check_text" "check_text" (defArgs s_check_text) (defBody s_check_text) (defScope s_check_text) .none kV10 dc10 pm10 an10 cd10 ct10), sl10⟩) (c10 : PySem.W.codeIn K cd10 "check_text" = true) (k10 : PySem.W.keepIn K (.ref f10) = true)
    {f11 : Addr} {od11 an11 : Option Addr} {sl11 : Array (Option Value)} {oc11 kV11 dc11 pm11 cd11 ct11 : Value}
    (a11 : PySem.W.nsIn K mainGlobals "is_letter" = some (some (.ref f11))) (l11 : K.lookup f11 = some ⟨oc11, od11, .func (PySem.W.fnOf "is_letter" "is_letter" (defArgs s_is_letter) (defBody s_is_letter) (defScope s_is_letter) .none kV11 dc11 pm11 an11 cd11 ct11), sl11⟩) (c11 : PySem.W.codeIn K cd11 "is_letter" = true) (k11 : PySem.W.keepIn K (.ref f11) = true)
    {f12 : Addr} {od12 an12 : Option Addr} {sl12 : Array (Option Value)} {oc12 kV12 dc12 pm12 cd12 ct12 : Value}
    (a12 : PySem.W.nsIn K mainGlobals "are_lines" = some (some (.ref f12))) (l12 : K.lookup f12 = some ⟨oc12, od12, .func (PySem.W.fnOf "are_lines" "are_lines" (defArgs s_are_lines) (defBody s_are_lines) (defScope s_are_lines) .none kV12 dc12 pm12 an12 cd12 ct12), sl12⟩) (c12 : PySem.W.codeIn K cd12 "are_lines" = true) (k12 : PySem.W.keepIn K (.ref f12) = true)
    {f13 : Addr} {od13 an13 : Option Addr} {sl13 : Array (Option Value)} {oc13 kV13 dc13 pm13 cd13 ct13 : Value}
    (a13 : PySem.W.nsIn K mainGlobals "check_letter" = some (some (.ref f13))) (l13 : K.lookup f13 = some ⟨oc13, od13, .func (PySem.W.fnOf "check_letter" "check_letter" (defArgs s_check_letter) (defBody s_check_letter) (defScope s_check_letter) .none kV13 dc13 pm13 an13 cd13 ct13), sl13⟩) (c13 : PySem.W.codeIn K cd13 "check_letter" = true) (k13 : PySem.W.keepIn K (.ref f13) = true)
    {f14 : Addr} {od14 an14 : Option Addr} {sl14 : Array (Option Value)} {oc14 kV14 dc14 pm14 cd14 ct14 : Value}
    (a14 : PySem.W.nsIn K mainGlobals "letter_text" = some (some (.ref f14))) (l14 : K.lookup f14 = some ⟨oc14, od14, .func (PySem.W.fnOf "letter_text" "letter_text" (defArgs s_letter_text) (defBody s_letter_text) (defScope s_letter_text) .none kV14 dc14 pm14 an14 cd14 ct14), sl14⟩) (c14 : PySem.W.codeIn K cd14 "letter_text" = true) (k14 : PySem.W.keepIn K (.ref f14) = true)
    {f15 : Addr} {od15 an15 : Option Addr} {sl15 : Array (Option Value)} {oc15 kV15 dc15 pm15 cd15 ct15 : Value}
    (a15 : PySem.W.nsIn K mainGlobals "letter_told" = some (some (.ref f15))) (l15 : K.lookup f15 = some ⟨oc15, od15, .func (PySem.W.fnOf "letter_told" "letter_told" (defArgs s_letter_told) (defBody s_letter_told) (defScope s_letter_told) .none kV15 dc15 pm15 an15 cd15 ct15), sl15⟩) (c15 : PySem.W.codeIn K cd15 "letter_told" = true) (k15 : PySem.W.keepIn K (.ref f15) = true)
    {f16 : Addr} {od16 an16 : Option Addr} {sl16 : Array (Option Value)} {oc16 kV16 dc16 pm16 cd16 ct16 : Value}
    (a16 : PySem.W.nsIn K mainGlobals "letter_from" = some (some (.ref f16))) (l16 : K.lookup f16 = some ⟨oc16, od16, .func (PySem.W.fnOf "letter_from" "letter_from" (defArgs s_letter_from) (defBody s_letter_from) (defScope s_letter_from) .none kV16 dc16 pm16 an16 cd16 ct16), sl16⟩) (c16 : PySem.W.codeIn K cd16 "letter_from" = true) (k16 : PySem.W.keepIn K (.ref f16) = true)
    {f17 : Addr} {od17 an17 : Option Addr} {sl17 : Array (Option Value)} {oc17 kV17 dc17 pm17 cd17 ct17 : Value}
    (a17 : PySem.W.nsIn K mainGlobals "_law_well" = some (some (.ref f17))) (l17 : K.lookup f17 = some ⟨oc17, od17, .func (PySem.W.fnOf "_law_well" "_law_well" (defArgs s__law_well) (defBody s__law_well) (defScope s__law_well) .none kV17 dc17 pm17 an17 cd17 ct17), sl17⟩) (c17 : PySem.W.codeIn K cd17 "_law_well" = true) (k17 : PySem.W.keepIn K (.ref f17) = true)
    {f18 : Addr} {od18 an18 : Option Addr} {sl18 : Array (Option Value)} {oc18 kV18 dc18 pm18 cd18 ct18 : Value}
    (a18 : PySem.W.nsIn K mainGlobals "_law_draw" = some (some (.ref f18))) (l18 : K.lookup f18 = some ⟨oc18, od18, .func (PySem.W.fnOf "_law_draw" "_law_draw" (defArgs s__law_draw) (defBody s__law_draw) (defScope s__law_draw) .none kV18 dc18 pm18 an18 cd18 ct18), sl18⟩) (c18 : PySem.W.codeIn K cd18 "_law_draw" = true) (k18 : PySem.W.keepIn K (.ref f18) = true)
    {f19 : Addr} {od19 an19 : Option Addr} {sl19 : Array (Option Value)} {oc19 kV19 dc19 pm19 cd19 ct19 : Value}
    (a19 : PySem.W.nsIn K mainGlobals "_law_same" = some (some (.ref f19))) (l19 : K.lookup f19 = some ⟨oc19, od19, .func (PySem.W.fnOf "_law_same" "_law_same" (defArgs s__law_same) (defBody s__law_same) (defScope s__law_same) .none kV19 dc19 pm19 an19 cd19 ct19), sl19⟩) (c19 : PySem.W.codeIn K cd19 "_law_same" = true) (k19 : PySem.W.keepIn K (.ref f19) = true)
    {f20 : Addr} {od20 an20 : Option Addr} {sl20 : Array (Option Value)} {oc20 kV20 dc20 pm20 cd20 ct20 : Value}
    (a20 : PySem.W.nsIn K mainGlobals "_law_sign" = some (some (.ref f20))) (l20 : K.lookup f20 = some ⟨oc20, od20, .func (PySem.W.fnOf "_law_sign" "_law_sign" (defArgs s__law_sign) (defBody s__law_sign) (defScope s__law_sign) .none kV20 dc20 pm20 an20 cd20 ct20), sl20⟩) (c20 : PySem.W.codeIn K cd20 "_law_sign" = true) (k20 : PySem.W.keepIn K (.ref f20) = true)
    {f21 : Addr} {od21 an21 : Option Addr} {sl21 : Array (Option Value)} {oc21 kV21 dc21 pm21 cd21 ct21 : Value}
    (a21 : PySem.W.nsIn K mainGlobals "_law_text" = some (some (.ref f21))) (l21 : K.lookup f21 = some ⟨oc21, od21, .func (PySem.W.fnOf "_law_text" "_law_text" (defArgs s__law_text) (defBody s__law_text) (defScope s__law_text) .none kV21 dc21 pm21 an21 cd21 ct21), sl21⟩) (c21 : PySem.W.codeIn K cd21 "_law_text" = true) (k21 : PySem.W.keepIn K (.ref f21) = true)
    {f22 : Addr} {od22 an22 : Option Addr} {sl22 : Array (Option Value)} {oc22 kV22 dc22 pm22 cd22 ct22 : Value}
    (a22 : PySem.W.nsIn K mainGlobals "_law_changes" = some (some (.ref f22))) (l22 : K.lookup f22 = some ⟨oc22, od22, .func (PySem.W.fnOf "_law_changes" "_law_changes" (defArgs s__law_changes) (defBody s__law_changes) (defScope s__law_changes) .none kV22 dc22 pm22 an22 cd22 ct22), sl22⟩) (c22 : PySem.W.codeIn K cd22 "_law_changes" = true) (k22 : PySem.W.keepIn K (.ref f22) = true)
    {f23 : Addr} {od23 an23 : Option Addr} {sl23 : Array (Option Value)} {oc23 kV23 dc23 pm23 cd23 ct23 : Value}
    (a23 : PySem.W.nsIn K mainGlobals "_law_rows" = some (some (.ref f23))) (l23 : K.lookup f23 = some ⟨oc23, od23, .func (PySem.W.fnOf "_law_rows" "_law_rows" (defArgs s__law_rows) (defBody s__law_rows) (defScope s__law_rows) .none kV23 dc23 pm23 an23 cd23 ct23), sl23⟩) (c23 : PySem.W.codeIn K cd23 "_law_rows" = true) (k23 : PySem.W.keepIn K (.ref f23) = true)
    {f24 : Addr} {od24 an24 : Option Addr} {sl24 : Array (Option Value)} {oc24 kV24 dc24 pm24 cd24 ct24 : Value}
    (a24 : PySem.W.nsIn K mainGlobals "_law_number" = some (some (.ref f24))) (l24 : K.lookup f24 = some ⟨oc24, od24, .func (PySem.W.fnOf "_law_number" "_law_number" (defArgs s__law_number) (defBody s__law_number) (defScope s__law_number) .none kV24 dc24 pm24 an24 cd24 ct24), sl24⟩) (c24 : PySem.W.codeIn K cd24 "_law_number" = true) (k24 : PySem.W.keepIn K (.ref f24) = true)
    {f25 : Addr} {od25 an25 : Option Addr} {sl25 : Array (Option Value)} {oc25 kV25 dc25 pm25 cd25 ct25 : Value}
    (a25 : PySem.W.nsIn K mainGlobals "_law_read_rows" = some (some (.ref f25))) (l25 : K.lookup f25 = some ⟨oc25, od25, .func (PySem.W.fnOf "_law_read_rows" "_law_read_rows" (defArgs s__law_read_rows) (defBody s__law_read_rows) (defScope s__law_read_rows) .none kV25 dc25 pm25 an25 cd25 ct25), sl25⟩) (c25 : PySem.W.codeIn K cd25 "_law_read_rows" = true) (k25 : PySem.W.keepIn K (.ref f25) = true)
    {f26 : Addr} {od26 an26 : Option Addr} {sl26 : Array (Option Value)} {oc26 kV26 dc26 pm26 cd26 ct26 : Value}
    (a26 : PySem.W.nsIn K mainGlobals "_law_digits" = some (some (.ref f26))) (l26 : K.lookup f26 = some ⟨oc26, od26, .func (PySem.W.fnOf "_law_digits" "_law_digits" (defArgs s__law_digits) (defBody s__law_digits) (defScope s__law_digits) .none kV26 dc26 pm26 an26 cd26 ct26), sl26⟩) (c26 : PySem.W.codeIn K cd26 "_law_digits" = true) (k26 : PySem.W.keepIn K (.ref f26) = true)
    {f27 : Addr} {od27 an27 : Option Addr} {sl27 : Array (Option Value)} {oc27 kV27 dc27 pm27 cd27 ct27 : Value}
    (a27 : PySem.W.nsIn K mainGlobals "_law_written" = some (some (.ref f27))) (l27 : K.lookup f27 = some ⟨oc27, od27, .func (PySem.W.fnOf "_law_written" "_law_written" (defArgs s__law_written) (defBody s__law_written) (defScope s__law_written) .none kV27 dc27 pm27 an27 cd27 ct27), sl27⟩) (c27 : PySem.W.codeIn K cd27 "_law_written" = true) (k27 : PySem.W.keepIn K (.ref f27) = true)
    {f28 : Addr} {od28 an28 : Option Addr} {sl28 : Array (Option Value)} {oc28 kV28 dc28 pm28 cd28 ct28 : Value}
    (a28 : PySem.W.nsIn K mainGlobals "_law_read" = some (some (.ref f28))) (l28 : K.lookup f28 = some ⟨oc28, od28, .func (PySem.W.fnOf "_law_read" "_law_read" (defArgs s__law_read) (defBody s__law_read) (defScope s__law_read) .none kV28 dc28 pm28 an28 cd28 ct28), sl28⟩) (c28 : PySem.W.codeIn K cd28 "_law_read" = true) (k28 : PySem.W.keepIn K (.ref f28) = true)
    {f29 : Addr} {od29 an29 : Option Addr} {sl29 : Array (Option Value)} {oc29 kV29 dc29 pm29 cd29 ct29 : Value}
    (a29 : PySem.W.nsIn K mainGlobals "_law_letter" = some (some (.ref f29))) (l29 : K.lookup f29 = some ⟨oc29, od29, .func (PySem.W.fnOf "_law_letter" "_law_letter" (defArgs s__law_letter) (defBody s__law_letter) (defScope s__law_letter) .none kV29 dc29 pm29 an29 cd29 ct29), sl29⟩) (c29 : PySem.W.codeIn K cd29 "_law_letter" = true) (k29 : PySem.W.keepIn K (.ref f29) = true)
    {f30 : Addr} {od30 an30 : Option Addr} {sl30 : Array (Option Value)} {oc30 kV30 dc30 pm30 cd30 ct30 : Value}
    (a30 : PySem.W.nsIn K mainGlobals "_law_no_rows" = some (some (.ref f30))) (l30 : K.lookup f30 = some ⟨oc30, od30, .func (PySem.W.fnOf "_law_no_rows" "_law_no_rows" (defArgs s__law_no_rows) (defBody s__law_no_rows) (defScope s__law_no_rows) .none kV30 dc30 pm30 an30 cd30 ct30), sl30⟩) (c30 : PySem.W.codeIn K cd30 "_law_no_rows" = true) (k30 : PySem.W.keepIn K (.ref f30) = true)
    {f31 : Addr} {od31 an31 : Option Addr} {sl31 : Array (Option Value)} {oc31 kV31 dc31 pm31 cd31 ct31 : Value}
    (a31 : PySem.W.nsIn K mainGlobals "_law_bent" = some (some (.ref f31))) (l31 : K.lookup f31 = some ⟨oc31, od31, .func (PySem.W.fnOf "_law_bent" "_law_bent" (defArgs s__law_bent) (defBody s__law_bent) (defScope s__law_bent) .none kV31 dc31 pm31 an31 cd31 ct31), sl31⟩) (c31 : PySem.W.codeIn K cd31 "_law_bent" = true) (k31 : PySem.W.keepIn K (.ref f31) = true)
    {f32 : Addr} {od32 an32 : Option Addr} {sl32 : Array (Option Value)} {oc32 kV32 dc32 pm32 cd32 ct32 : Value}
    (a32 : PySem.W.nsIn K mainGlobals "_law_spoilt" = some (some (.ref f32))) (l32 : K.lookup f32 = some ⟨oc32, od32, .func (PySem.W.fnOf "_law_spoilt" "_law_spoilt" (defArgs s__law_spoilt) (defBody s__law_spoilt) (defScope s__law_spoilt) .none kV32 dc32 pm32 an32 cd32 ct32), sl32⟩) (c32 : PySem.W.codeIn K cd32 "_law_spoilt" = true) (k32 : PySem.W.keepIn K (.ref f32) = true)
    {f33 : Addr} {od33 an33 : Option Addr} {sl33 : Array (Option Value)} {oc33 kV33 dc33 pm33 cd33 ct33 : Value}
    (a33 : PySem.W.nsIn K mainGlobals "_law_told" = some (some (.ref f33))) (l33 : K.lookup f33 = some ⟨oc33, od33, .func (PySem.W.fnOf "_law_told" "_law_told" (defArgs s__law_told) (defBody s__law_told) (defScope s__law_told) .none kV33 dc33 pm33 an33 cd33 ct33), sl33⟩) (c33 : PySem.W.codeIn K cd33 "_law_told" = true) (k33 : PySem.W.keepIn K (.ref f33) = true)
    {f34 : Addr} {od34 an34 : Option Addr} {sl34 : Array (Option Value)} {oc34 kV34 dc34 pm34 cd34 ct34 : Value}
    (a34 : PySem.W.nsIn K mainGlobals "_law_no_text" = some (some (.ref f34))) (l34 : K.lookup f34 = some ⟨oc34, od34, .func (PySem.W.fnOf "_law_no_text" "_law_no_text" (defArgs s__law_no_text) (defBody s__law_no_text) (defScope s__law_no_text) .none kV34 dc34 pm34 an34 cd34 ct34), sl34⟩) (c34 : PySem.W.codeIn K cd34 "_law_no_text" = true) (k34 : PySem.W.keepIn K (.ref f34) = true)
    {f35 : Addr} {od35 an35 : Option Addr} {sl35 : Array (Option Value)} {oc35 kV35 dc35 pm35 cd35 ct35 : Value}
    (a35 : PySem.W.nsIn K mainGlobals "_law_no_letter" = some (some (.ref f35))) (l35 : K.lookup f35 = some ⟨oc35, od35, .func (PySem.W.fnOf "_law_no_letter" "_law_no_letter" (defArgs s__law_no_letter) (defBody s__law_no_letter) (defScope s__law_no_letter) .none kV35 dc35 pm35 an35 cd35 ct35), sl35⟩) (c35 : PySem.W.codeIn K cd35 "_law_no_letter" = true) (k35 : PySem.W.keepIn K (.ref f35) = true)
    {f36 : Addr} {od36 an36 : Option Addr} {sl36 : Array (Option Value)} {oc36 kV36 dc36 pm36 cd36 ct36 : Value}
    (a36 : PySem.W.nsIn K mainGlobals "law" = some (some (.ref f36))) (l36 : K.lookup f36 = some ⟨oc36, od36, .func (PySem.W.fnOf "law" "law" (defArgs s_law) (defBody s_law) (defScope s_law) .none kV36 dc36 pm36 an36 cd36 ct36), sl36⟩) (c36 : PySem.W.codeIn K cd36 "law" = true) (k36 : PySem.W.keepIn K (.ref f36) = true)
    (z0 : PySem.W.nsIn K mainGlobals "abs" = some none)
    (z1 : PySem.W.nsIn K mainGlobals "all" = some none)
    (z2 : PySem.W.nsIn K mainGlobals "int" = some none)
    (z3 : PySem.W.nsIn K mainGlobals "isinstance" = some none)
    (z4 : PySem.W.nsIn K mainGlobals "len" = some none)
    (z5 : PySem.W.nsIn K mainGlobals "list" = some none)
    (z6 : PySem.W.nsIn K mainGlobals "max" = some none)
    (z7 : PySem.W.nsIn K mainGlobals "range" = some none)
    (z8 : PySem.W.nsIn K mainGlobals "sorted" = some none)
    (z9 : PySem.W.nsIn K mainGlobals "str" = some none)
    (z10 : PySem.W.nsIn K mainGlobals "tuple" = some none)
    (z11 : PySem.W.nsIn K mainGlobals "type" = some none)
    (z12 : PySem.W.nsIn K mainGlobals "zip" = some none)
    {t0 : Tok} (q0 : PySem.W.nsIn K mainGlobals "MOST_NUMBER" = some (some (.int 99999999 t0)))
    {t1 : Tok} (q1 : PySem.W.nsIn K mainGlobals "MOST_PIECES" = some (some (.int 9999 t1)))
    {t2 : Tok} (q2 : PySem.W.nsIn K mainGlobals "MOST_SIGNS" = some (some (.int 9999 t2)))
    {x_InvalidLetter : Addr} (xa_InvalidLetter : PySem.W.nsIn K mainGlobals "InvalidLetter" = some (some (.ref x_InvalidLetter))) (xe_InvalidLetter : PySem.W.excIn K x_InvalidLetter [.type "ValueError", .type "Exception", .type "BaseException", .type "object"] "ValueError.__new__" = true) (xk_InvalidLetter : PySem.W.keepIn K (.ref x_InvalidLetter) = true) (xs_InvalidLetter : PySem.W.subIn K (.ref x_InvalidLetter) (.type "BaseException") = some true) (xt_InvalidLetter : PySem.W.typeIn K (.ref x_InvalidLetter) = some (.type "type")) (xy_InvalidLetter : PySem.W.subIn K (.ref x_InvalidLetter) (.type "BaseException") = some true) (xi_InvalidLetter : PySem.W.isClsIn K x_InvalidLetter = true) (xz_InvalidLetter : PySem.W.typeIn K (.ref x_InvalidLetter) = some (.type "type"))
    {x_InvalidText : Addr} (xa_InvalidText : PySem.W.nsIn K mainGlobals "InvalidText" = some (some (.ref x_InvalidText))) (xe_InvalidText : PySem.W.excIn K x_InvalidText [.type "ValueError", .type "Exception", .type "BaseException", .type "object"] "ValueError.__new__" = true) (xk_InvalidText : PySem.W.keepIn K (.ref x_InvalidText) = true) (xs_InvalidText : PySem.W.subIn K (.ref x_InvalidText) (.type "BaseException") = some true) (xt_InvalidText : PySem.W.typeIn K (.ref x_InvalidText) = some (.type "type")) (xy_InvalidText : PySem.W.subIn K (.ref x_InvalidText) (.type "BaseException") = some true) (xi_InvalidText : PySem.W.isClsIn K x_InvalidText = true) (xz_InvalidText : PySem.W.typeIn K (.ref x_InvalidText) = some (.type "type"))
    (xp_InvalidLetter_InvalidLetter : PySem.W.subIn K (.ref x_InvalidLetter) (.ref x_InvalidLetter) = some true)
    (xp_InvalidLetter_InvalidText : PySem.W.subIn K (.ref x_InvalidLetter) (.ref x_InvalidText) = some false)
    (xp_InvalidText_InvalidLetter : PySem.W.subIn K (.ref x_InvalidText) (.ref x_InvalidLetter) = some false)
    (xp_InvalidText_InvalidText : PySem.W.subIn K (.ref x_InvalidText) (.ref x_InvalidText) = some true) :
    ∃ fd : FuncData, (∀ (s : Shared) (v : Value), BindsTo s fd ⟨[v], []⟩ [("_law_script", v)]) ∧ ∀ base : Heap, K.In base → base.Ns mainGlobals mg → FnOk l.prog w K mg base CX0 9 fa fd ["_law_script"] (spLaw K) := by
  have e := hfa.symm.trans (PySem.W.mg_of X G a36)
  cases e
  have Y := fx_mk X G a0 l0 c0 k0 a1 l1 c1 k1 a2 l2 c2 k2 a3 l3 c3 k3 a4 l4 c4 k4 a5 l5 c5 k5 a6 l6 c6 k6 a7 l7 c7 k7 a8 l8 c8 k8 a9 l9 c9 k9 a10 l10 c10 k10 a11 l11 c11 k11 a12 l12 c12 k12 a13 l13 c13 k13 a14 l14 c14 k14 a15 l15 c15 k15 a16 l16 c16 k16 a17 l17 c17 k17 a18 l18 c18 k18 a19 l19 c19 k19 a20 l20 c20 k20 a21 l21 c21 k21 a22 l22 c22 k22 a23 l23 c23 k23 a24 l24 c24 k24 a25 l25 c25 k25 a26 l26 c26 k26 a27 l27 c27 k27 a28 l28 c28 k28 a29 l29 c29 k29 a30 l30 c30 k30 a31 l31 c31 k31 a32 l32 c32 k32 a33 l33 c33 k33 a34 l34 c34 k34 a35 l35 c35 k35 a36 l36 c36 k36 z0 z1 z2 z3 z4 z5 z6 z7 z8 z9 z10 z11 z12 q0 q1 q2 xa_InvalidLetter xe_InvalidLetter xk_InvalidLetter xs_InvalidLetter xt_InvalidLetter xy_InvalidLetter xi_InvalidLetter xz_InvalidLetter xa_InvalidText xe_InvalidText xk_InvalidText xs_InvalidText xt_InvalidText xy_InvalidText xi_InvalidText xz_InvalidText xp_InvalidLetter_InvalidLetter xp_InvalidLetter_InvalidText xp_InvalidText_InvalidLetter xp_InvalidText_InvalidText
  exact ⟨PySem.W.fnOf "law" "law" (defArgs s_law) (defBody s_law) (defScope s_law) .none kV36 dc36 pm36 an36 cd36 ct36, fun s v => .of_eq rfl, fun base _ _ => ok_law (fx_mk X G a0 l0 c0 k0 a1 l1 c1 k1 a2 l2 c2 k2 a3 l3 c3 k3 a4 l4 c4 k4 a5 l5 c5 k5 a6 l6 c6 k6 a7 l7 c7 k7 a8 l8 c8 k8 a9 l9 c9 k9 a10 l10 c10 k10 a11 l11 c11 k11 a12 l12 c12 k12 a13 l13 c13 k13 a14 l14 c14 k14 a15 l15 c15 k15 a16 l16 c16 k16 a17 l17 c17 k17 a18 l18 c18 k18 a19 l19 c19 k19 a20 l20 c20 k20 a21 l21 c21 k21 a22 l22 c22 k22 a23 l23 c23 k23 a24 l24 c24 k24 a25 l25 c25 k25 a26 l26 c26 k26 a27 l27 c27 k27 a28 l28 c28 k28 a29 l29 c29 k29 a30 l30 c30 k30 a31 l31 c31 k31 a32 l32 c32 k32 a33 l33 c33 k33 a34 l34 c34 k34 a35 l35 c35 k35 a36 l36 c36 k36 z0 z1 z2 z3 z4 z5 z6 z7 z8 z9 z10 z11 z12 q0 q1 q2 xa_InvalidLetter xe_InvalidLetter xk_InvalidLetter xs_InvalidLetter xt_InvalidLetter xy_InvalidLetter xi_InvalidLetter xz_InvalidLetter xa_InvalidText xe_InvalidText xk_InvalidText xs_InvalidText xt_InvalidText xy_InvalidText xi_InvalidText xz_InvalidText xp_InvalidLetter_InvalidLetter xp_InvalidLetter_InvalidText xp_InvalidText_InvalidLetter xp_InvalidText_InvalidText)⟩
end My
open PySem PySem.W PyProof.Rows
set_option maxHeartbeats 0 in
theorem PySem.Challenge.cw_heldpasts_k71_letters_and_texts_holds : PySem.Challenge.rw_heldpasts_k71_letters_and_texts.Holds := by
  w_on; o_law; k_head; (case hw => w_witness2)
  k_fill
  refine L2.walk_of (l := PySem.Challenge.rw_heldpasts_k71_letters_and_texts) (n := 63) (k := 9) (x := "_law_script") (CX := fun _ => L2.CX0) (sp := fun w => My.spLaw _) rfl (by decide) rfl ⟨rfl, by decide, by decide⟩ (fun w h Y => PySem.W.kIn_of Y) ?F (fun _ _ a ns hl _ hS => ⟨a, ns, rfl, hS, hl, fun _ => rfl⟩) (fun _ _ _ _ _ h => h)
  case F =>
    intro w mg fa h KX G hmg
    refine' My.all_mk KX G hmg ?a0 ?l0 ?c0 ?k0 ?a1 ?l1 ?c1 ?k1 ?a2 ?l2 ?c2 ?k2 ?a3 ?l3 ?c3 ?k3 ?a4 ?l4 ?c4 ?k4 ?a5 ?l5 ?c5 ?k5 ?a6 ?l6 ?c6 ?k6 ?a7 ?l7 ?c7 ?k7 ?a8 ?l8 ?c8 ?k8 ?a9 ?l9 ?c9 ?k9 ?a10 ?l10 ?c10 ?k10 ?a11 ?l11 ?c11 ?k11 ?a12 ?l12 ?c12 ?k12 ?a13 ?l13 ?c13 ?k13 ?a14 ?l14 ?c14 ?k14 ?a15 ?l15 ?c15 ?k15 ?a16 ?l16 ?c16 ?k16 ?a17 ?l17 ?c17 ?k17 ?a18 ?l18 ?c18 ?k18 ?a19 ?l19 ?c19 ?k19 ?a20 ?l20 ?c20 ?k20 ?a21 ?l21 ?c21 ?k21 ?a22 ?l22 ?c22 ?k22 ?a23 ?l23 ?c23 ?k23 ?a24 ?l24 ?c24 ?k24 ?a25 ?l25 ?c25 ?k25 ?a26 ?l26 ?c26 ?k26 ?a27 ?l27 ?c27 ?k27 ?a28 ?l28 ?c28 ?k28 ?a29 ?l29 ?c29 ?k29 ?a30 ?l30 ?c30 ?k30 ?a31 ?l31 ?c31 ?k31 ?a32 ?l32 ?c32 ?k32 ?a33 ?l33 ?c33 ?k33 ?a34 ?l34 ?c34 ?k34 ?a35 ?l35 ?c35 ?k35 ?a36 ?l36 ?c36 ?k36 ?z0 ?z1 ?z2 ?z3 ?z4 ?z5 ?z6 ?z7 ?z8 ?z9 ?z10 ?z11 ?z12 ?q0 ?q1 ?q2 ?xa_InvalidLetter ?xe_InvalidLetter ?xk_InvalidLetter ?xs_InvalidLetter ?xt_InvalidLetter ?xy_InvalidLetter ?xi_InvalidLetter ?xz_InvalidLetter ?xa_InvalidText ?xe_InvalidText ?xk_InvalidText ?xs_InvalidText ?xt_InvalidText ?xy_InvalidText ?xi_InvalidText ?xz_InvalidText ?xp_InvalidLetter_InvalidLetter ?xp_InvalidLetter_InvalidText ?xp_InvalidText_InvalidLetter ?xp_InvalidText_InvalidText
    (case a0 => k_is); (case l0 => k_is); (case c0 => k_is); (case k0 => k_is); (case a1 => k_is); (case l1 => k_is); (case c1 => k_is); (case k1 => k_is); (case a2 => k_is); (case l2 => k_is); (case c2 => k_is); (case k2 => k_is); (case a3 => k_is); (case l3 => k_is); (case c3 => k_is); (case k3 => k_is); (case a4 => k_is); (case l4 => k_is); (case c4 => k_is); (case k4 => k_is); (case a5 => k_is); (case l5 => k_is); (case c5 => k_is); (case k5 => k_is); (case a6 => k_is); (case l6 => k_is); (case c6 => k_is); (case k6 => k_is); (case a7 => k_is); (case l7 => k_is); (case c7 => k_is); (case k7 => k_is); (case a8 => k_is); (case l8 => k_is); (case c8 => k_is); (case k8 => k_is); (case a9 => k_is); (case l9 => k_is); (case c9 => k_is); (case k9 => k_is); (case a10 => k_is); (case l10 => k_is); (case c10 => k_is); (case k10 => k_is); (case a11 => k_is); (case l11 => k_is); (case c11 => k_is); (case k11 => k_is); (case a12 => k_is); (case l12 => k_is); (case c12 => k_is); (case k12 => k_is); (case a13 => k_is); (case l13 => k_is); (case c13 => k_is); (case k13 => k_is); (case a14 => k_is); (case l14 => k_is); (case c14 => k_is); (case k14 => k_is); (case a15 => k_is); (case l15 => k_is); (case c15 => k_is); (case k15 => k_is); (case a16 => k_is); (case l16 => k_is); (case c16 => k_is); (case k16 => k_is); (case a17 => k_is); (case l17 => k_is); (case c17 => k_is); (case k17 => k_is); (case a18 => k_is); (case l18 => k_is); (case c18 => k_is); (case k18 => k_is); (case a19 => k_is); (case l19 => k_is); (case c19 => k_is); (case k19 => k_is); (case a20 => k_is); (case l20 => k_is); (case c20 => k_is); (case k20 => k_is); (case a21 => k_is); (case l21 => k_is); (case c21 => k_is); (case k21 => k_is); (case a22 => k_is); (case l22 => k_is); (case c22 => k_is); (case k22 => k_is); (case a23 => k_is); (case l23 => k_is); (case c23 => k_is); (case k23 => k_is); (case a24 => k_is); (case l24 => k_is); (case c24 => k_is); (case k24 => k_is); (case a25 => k_is); (case l25 => k_is); (case c25 => k_is); (case k25 => k_is); (case a26 => k_is); (case l26 => k_is); (case c26 => k_is); (case k26 => k_is); (case a27 => k_is); (case l27 => k_is); (case c27 => k_is); (case k27 => k_is); (case a28 => k_is); (case l28 => k_is); (case c28 => k_is); (case k28 => k_is); (case a29 => k_is); (case l29 => k_is); (case c29 => k_is); (case k29 => k_is); (case a30 => k_is); (case l30 => k_is); (case c30 => k_is); (case k30 => k_is); (case a31 => k_is); (case l31 => k_is); (case c31 => k_is); (case k31 => k_is); (case a32 => k_is); (case l32 => k_is); (case c32 => k_is); (case k32 => k_is); (case a33 => k_is); (case l33 => k_is); (case c33 => k_is); (case k33 => k_is); (case a34 => k_is); (case l34 => k_is); (case c34 => k_is); (case k34 => k_is); (case a35 => k_is); (case l35 => k_is); (case c35 => k_is); (case k35 => k_is); (case a36 => k_is); (case l36 => k_is); (case c36 => k_is); (case k36 => k_is); (case z0 => k_is); (case z1 => k_is); (case z2 => k_is); (case z3 => k_is); (case z4 => k_is); (case z5 => k_is); (case z6 => k_is); (case z7 => k_is); (case z8 => k_is); (case z9 => k_is); (case z10 => k_is); (case z11 => k_is); (case z12 => k_is); (case q0 => k_is); (case q1 => k_is); (case q2 => k_is); (case xa_InvalidLetter => k_is); (case xe_InvalidLetter => first | k_exc | k_is); (case xk_InvalidLetter => k_is); (case xs_InvalidLetter => k_is); (case xt_InvalidLetter => k_is); (case xy_InvalidLetter => k_is); (case xi_InvalidLetter => k_is); (case xz_InvalidLetter => k_is); (case xa_InvalidText => k_is); (case xe_InvalidText => first | k_exc | k_is); (case xk_InvalidText => k_is); (case xs_InvalidText => k_is); (case xt_InvalidText => k_is); (case xy_InvalidText => k_is); (case xi_InvalidText => k_is); (case xz_InvalidText => k_is); (case xp_InvalidLetter_InvalidLetter => first | rfl | k_is); (case xp_InvalidLetter_InvalidText => first | rfl | k_is); (case xp_InvalidText_InvalidLetter => first | rfl | k_is); (case xp_InvalidText_InvalidText => first | rfl | k_is)

