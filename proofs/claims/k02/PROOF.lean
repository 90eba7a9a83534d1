import PyProof.Rows.All
import Wide.All
import OpenK.AllK
import Wide.FinOn
import HandS.ForMost
import HandS.Wide
import HandS.More
import HandS.StrMore
import HandS.FStr
import HandS.IsInst
import HandS.TupAny
import HandS.Style
import HandS.Exc
import HandS.TryOnly
import HandS.ExcOwn
import HandS.WordsExc
import HandS.Evl
import HandS.Codes
import PySem.Challenge.RW_heldpasts_k02_pieces
set_option Elab.async false
set_option linter.all false
set_option maxRecDepth 100000
set_option maxHeartbeats 4000000
/-! ### my rules: one name an operator, whatever the kinds -/
namespace My
open PySem PySem.Spec PyProof.Rows L2
section
variable {X : Cx}
theorem hu_64 {A : Around} {k : Nat} (hr : Room k A) : A.units + 64 < cLine := hr.units
/-! #### + -/
def rAddS : R2 := fun x y H Q => ∃ i j, x = .str i ∧ y = .str j ∧ i.length + j.length ≤ sizeLine ∧ Q (.str (i ++ j)) H
def rADD (K : PySem.W.Frag) : R2 := fun x y H Q => rI0 (fun i j => .int (i + j)) x y H Q ∨ rAddS x y H Q ∨ rCat x y H Q ∨ rCatA K x y H Q
theorem op_ADD : OpR X (binaryOp .Add) (rADD X.K) := op_add.or (OpR.or (r := rAddS) op_add_str (op_cat.or op_catA))
def rSUB : R2 := rI0 fun i j => .int (i - j)
theorem op_SUB : OpR X (binaryOp .Sub) rSUB := op_sub
/-! #### * -/
theorem cps_repl (l : Array Nat) (k : Nat) : (List.replicate k l).foldl (· ++ ·) #[] = ((List.replicate k l.toList).flatten).toArray := by
  have h : ∀ (n : Nat) (acc : Array Nat), (List.replicate n l).foldl (· ++ ·) acc = acc ++ ((List.replicate n l.toList).flatten).toArray := by
    intro n
    induction n with
    | zero => intro acc; simp
    | succ n ih =>
      intro acc
      rw [List.replicate_succ, List.foldl_cons, ih, List.replicate_succ, List.flatten_cons]
      apply Array.ext'
      simp
  rw [h]
  simp
/-- a text so many times -/
def repS (x : Str) (k : Int) : Str := ⟨((List.replicate k.toNat x.cps.toList).flatten).toArray⟩
def rMulS : R2 := fun x y H Q => ∃ z k, x = .str z ∧ y = .int k ∧ -(2 ^ 63) ≤ k ∧ k < 2 ^ 63 ∧ z.length * k.toNat ≤ sizeLine ∧ Q (.str (repS z k)) H
theorem op_mul_str : OpR X (binaryOp .Mult) rMulS := by
  intro pins s σ H x y v u Q I rx ry h
  obtain ⟨z, k, rfl, rfl, h1, h2, hz, q⟩ := h
  obtain ⟨t, rfl⟩ := rx
  obtain ⟨t', rfl⟩ := ry
  have hz' : z.length * k.toNat ≤ 2 ^ 24 := hz
  refine P.mul_str ?_ ?_ ?_ ?_
  · rw [decide_eq_false (by omega), decide_eq_false (by omega)]; rfl
  · intro h1 h3
    have hk : 0 < k := by omega
    have h4 : (z.length : Int) * k ≤ 2 ^ 24 := by
      have : ((z.length * k.toNat : Nat) : Int) ≤ 2 ^ 24 := by exact_mod_cast hz'
      rw [Int.natCast_mul, Int.toNat_of_nonneg (by omega)] at this
      exact this
    intro h5
    have h6 : (2 ^ 63 - 1) / k < (z.length : Int) := h5
    have h7 := (Int.ediv_lt_iff_lt_mul hk).mp h6
    omega
  · intro h1 h3
    exact decide_eq_false (Nat.not_lt.mpr hz)
  · by_cases h3 : k < 1
    · rw [if_pos h3]
      have e : repS z k = Str.empty := by
        unfold repS
        rw [show k.toNat = 0 by omega]
        rfl
      rw [e] at q
      exact ⟨by decide, ⟨.str Str.empty, H, I.tok _, ⟨_, rfl⟩, q⟩⟩
    · rw [if_neg h3]
      by_cases h4 : (k == 1 || z.length == 0) = true
      · rw [if_pos h4]
        have e : repS z k = z := by
          unfold repS
          rcases Bool.or_eq_true _ _ ▸ h4 with h5 | h5
          · rw [show k.toNat = 1 by have := of_decide_eq_true h5; omega]
            simp
          · have h6 : z.length = 0 := by simpa using h5
            have h7 : z.cps.toList = [] := by
              apply List.eq_nil_of_length_eq_zero
              rw [Array.length_toList]
              exact h6
            rw [h7]
            rcases z with ⟨c⟩
            have h8 : c = #[] := Array.ext' (by simpa using h7)
            subst h8
            simp
        rw [e] at q
        exact ⟨.str z, H, I, ⟨_, rfl⟩, q⟩
      · rw [if_neg h4]
        refine ⟨?_, ⟨.str (repS z k), H, I.tok _, ⟨s.toks, ?_⟩, q⟩⟩
        · show Str.length ⟨_⟩ ≤ sizeLine
          rw [cps_repl]
          show (List.toArray _).size ≤ sizeLine
          rw [List.size_toArray, List.length_flatten, List.map_replicate, List.sum_replicate_nat, Array.length_toList]
          show k.toNat * z.length ≤ sizeLine
          rw [Nat.mul_comm]
          exact hz
        · rw [cps_repl]
          rfl
def CMulA (i j : Int) : Prop := CMul i j ∨ CMulW i j
def rMulI : R2 := fun x y H Q => ∃ i j, x = .int i ∧ y = .int j ∧ CMulA i j ∧ Q (.int (i * j)) H
theorem op_mulA : OpR X (binaryOp .Mult) rMulI := opI fun _ _ _ _ _ _ _ hc q => mul_int q (hc.elim (fun h => h.ok) fun h => h.ok)
def rMUL (K : PySem.W.Frag) : R2 := fun x y H Q => rMulI x y H Q ∨ rMulS x y H Q ∨ rRep x y H Q
theorem op_MUL : OpR X (binaryOp .Mult) (rMUL X.K) := op_mulA.or (op_mul_str.or op_rep)
/-! #### //, percent, ** -/
def rMOD : R2 := rI (fun _ j => 0 < j) fun i j => .int (i % j)
theorem op_MOD : OpR X (binaryOp .Mod) rMOD := op_mod
def rFDIV : R2 := rI CDivW fun i j => .int (i / j)
theorem op_FDIV : OpR X (binaryOp .FloorDiv) rFDIV := op_fdivW
def rPOW : R2 := rI CPow fun i j => .int (i ^ j.toNat)
theorem op_POW : OpR X (binaryOp .Pow) rPOW := op_pow
def rNEG : V → Hp → VK → Prop := rU fun i => .int (-i)
theorem un_NEG : UnR X (unaryOp .USub) rNEG := un_neg
/-! #### comparisons -/
def rEQ (K : PySem.W.Frag) : R2 := fun x y H Q => rEq x y H Q ∨ rEqD K x y H Q
theorem op_EQ (hu : X.A.units + 64 < cLine) : OpR X (compareOp .Eq) (rEQ X.K) := op_eq.or (op_eqD hu)
def rNE (K : PySem.W.Frag) : R2 := fun x y H Q => rNe x y H Q ∨ rNeD K x y H Q
theorem op_NE (hu : X.A.units + 64 < cLine) : OpR X (compareOp .NotEq) (rNE X.K) := op_ne.or (op_neD hu)
def rCI (p : Int → Int → Bool) : R2 := rI0 fun i j => .bl (p i j)
def rCS (p : List Nat → List Nat → Bool) : R2 := fun x y H Q => ∃ i j, x = .str i ∧ y = .str j ∧ Q (.bl (p i.cps.toList j.cps.toList)) H
def rLT : R2 := fun x y H Q => rCI (fun i j => decide (i < j)) x y H Q ∨ rCS (fun i j => decide (i < j)) x y H Q
theorem op_LT : OpR X (compareOp .Lt) rLT := OpR.or (r := rCI _) (r' := rCS _) op_lt op_lt_str
def rLE : R2 := fun x y H Q => rCI (fun i j => decide (i ≤ j)) x y H Q ∨ rCS (fun i j => !decide (j < i)) x y H Q
theorem op_LE : OpR X (compareOp .LtE) rLE := OpR.or (r := rCI _) (r' := rCS _) op_le op_le_str
def rGT : R2 := fun x y H Q => rCI (fun i j => decide (j < i)) x y H Q ∨ rCS (fun i j => decide (j < i)) x y H Q
theorem op_GT : OpR X (compareOp .Gt) rGT := OpR.or (r := rCI _) (r' := rCS _) op_gt op_gt_str
def rGE : R2 := fun x y H Q => rCI (fun i j => decide (j ≤ i)) x y H Q ∨ rCS (fun i j => !decide (i < j)) x y H Q
theorem op_GE : OpR X (compareOp .GtE) rGE := OpR.or (r := rCI _) (r' := rCS _) op_ge op_ge_str
/-- is: None; types; a truth on the right -/
def rIsT (f : Bool → Bool) : R2 := fun x y H Q => ∃ b, y = .bl b ∧ Q (.bl (f (decide (x = .bl b)))) H
theorem op_is_true : OpR X (compareOp .Is) (rIsT id) := by
  intro pins s σ H x y v u Q I rx ry h
  obtain ⟨b, rfl, q⟩ := h
  cases (show u = Value.bool b from ry)
  by_cases e : x = .bl b
  · subst e
    cases (show v = Value.bool b from rx)
    exact wpAny_is_self rfl ⟨.bl true, H, I, rfl, by simpa using q⟩
  · have ne : v ≠ Value.bool b := by
      rintro rfl
      apply e
      cases x <;> first
        | (cases rx; done)
        | (cases rx; rfl)
        | (obtain ⟨t, z⟩ := rx; cases z)
    have hp : plainIs v (Value.bool b) = true := by
      cases x <;> first
        | (cases rx; rfl)
        | (obtain ⟨t, rfl⟩ := rx; rfl)
    exact wpAny_is_other hp ne ⟨.bl false, H, I, rfl, by simpa [e] using q⟩
theorem op_isnot_true : OpR X (compareOp .IsNot) (rIsT not) := by
  intro pins s σ H x y v u Q I rx ry h
  obtain ⟨b, rfl, q⟩ := h
  cases (show u = Value.bool b from ry)
  by_cases e : x = .bl b
  · subst e
    cases (show v = Value.bool b from rx)
    exact wpAny_isNot_self rfl ⟨.bl false, H, I, rfl, by simpa using q⟩
  · have ne : v ≠ Value.bool b := by
      rintro rfl
      apply e
      cases x <;> first
        | (cases rx; done)
        | (cases rx; rfl)
        | (obtain ⟨t, z⟩ := rx; cases z)
    have hp : plainIs v (Value.bool b) = true := by
      cases x <;> first
        | (cases rx; rfl)
        | (obtain ⟨t, rfl⟩ := rx; rfl)
    exact wpAny_isNot_other hp ne ⟨.bl true, H, I, rfl, by simpa [e] using q⟩
def rIsN1 (f : Bool → Bool) : R2 := fun x y H Q => y = .non ∧ Q (.bl (f (decide (x = .non)))) H
def rIsTy (f : Bool → Bool) : R2 := fun x y H Q => ∃ m n, x = .ty m ∧ y = .ty n ∧ Q (.bl (f (decide (m = n)))) H
def rIS (_ : PySem.W.Frag) : R2 := fun x y H Q => rIsN1 id x y H Q ∨ rIsTy id x y H Q ∨ rIsT id x y H Q
theorem op_IS : OpR X (compareOp .Is) (rIS X.K) := OpR.or (r := rIsN1 id) op_isN (OpR.or (r := rIsTy id) op_isTyB op_is_true)
def rISN (_ : PySem.W.Frag) : R2 := fun x y H Q => rIsN1 not x y H Q ∨ rIsTy not x y H Q ∨ rIsT not x y H Q
theorem op_ISN : OpR X (compareOp .IsNot) (rISN X.K) := OpR.or (r := rIsN1 not) op_notN (OpR.or (r := rIsTy not) op_notTyB op_isnot_true)
/-- in: a sign in a text; in a list or tuple -/
def rInSg (f : Bool → Bool) : R2 := fun x y H Q => ∃ (c : Nat) (z : Str), x = .str ⟨#[c]⟩ ∧ y = .str z ∧ Q (.bl (f (decide (c ∈ z.cps.toList)))) H
def rINU (K : PySem.W.Frag) : R2 := fun x y H Q => rInSg id x y H Q ∨ rIn K false x y H Q
theorem op_IN : OpR X (compareOp .In) (rINU X.K) := OpR.or (r := rInSg id) op_in_sign op_in_seq
def rNINU (K : PySem.W.Frag) : R2 := fun x y H Q => rInSg not x y H Q ∨ rIn K true x y H Q
theorem op_NIN : OpR X (compareOp .NotIn) (rNINU X.K) := OpR.or (r := rInSg not) op_notIn_sign op_notIn_seq
/-! #### subscripts, slices -/
def rIX (K : PySem.W.Frag) : R2 := rIx K
theorem ix_SEQ : IxR X (rIX X.K) := ix_seq
def rSL (K : PySem.W.Frag) : V → Option Int → Option Int → Hp → VK → Prop := fun x lo hi H Q => rSlS x lo hi H Q ∨ rSlL K x lo hi H Q ∨ rSlA K x lo hi H Q
theorem sl_SEQ : SlR X (rSL X.K) := SlR.or sl_str (SlR.or sl_list sl_tupA)
/-! #### tests -/
def tTru1 (K : PySem.W.Frag) (ta : TE) : TT := fun σ H Q => ta σ H fun x H' => ∃ k, TruV K x H' k ∧ Q k H'
theorem pt_tru {a : Expr} {ta : TE} (ha : PE X a ta) (he : ∀ whole, isTrue a X.env whole = (do let v ← whole; standAt a.pos; holding [v] (truthy v))) : PT X a (tTru1 X.K ta) := pt_truth ha he
/-! #### the module's constants -/
theorem pe_cI {x : Str} {i : Int} {pos : Pos} (hg : Gl X x) (h : ∃ t, X.mg x = some (.int i t)) (hd : (x == ("__debug__" : Str)) = false := by decide) : PE X (.Name x pos) (tC (.int i)) := by
  obtain ⟨t, h⟩ := h
  exact pe_glob hg h ⟨t, rfl⟩ hd
theorem pe_cS {x : Str} {i : Str} {pos : Pos} (hg : Gl X x) (h : ∃ t, X.mg x = some (.str i t)) (hd : (x == ("__debug__" : Str)) = false := by decide) : PE X (.Name x pos) (tC (.str i)) := by
  obtain ⟨t, h⟩ := h
  exact pe_glob hg h ⟨t, rfl⟩ hd
theorem pe_cR {x : Str} {a : Addr} {pos : Pos} (hg : Gl X x) (h : X.mg x = some (.ref a)) (hd : (x == ("__debug__" : Str)) = false := by decide) : PE X (.Name x pos) (tC (.ref a)) := pe_glob hg h rfl hd
/-! #### calls with keywords alone -/
section
variable {CX : CXT} {k : Nat} {f C : Addr} {fd : FuncData} {ps ks : List Str} {sp : Sp} {E : XK} {x m : Str} {p pos apos kpos : Pos} {e o : Expr} {es : List Expr} {kws : List Keyword} {te ta : TE} {t tk : TA} {nm : Option Str}
variable {g : List Value → List Value → List Value} {gV : List V → List V → List V}
def tCallK0 (sp : Sp) (gV : List V → List V → List V) (E : XK) (tk : TA) : TE := fun σ H Q => tk σ H fun zs H2 => sp (gV [] zs) H2 Q E
theorem pe_callK0 (F : FnOk X.prog X.w X.K X.mg X.base CX k f fd ps sp) (hr : Room k X.A) (hg : Gl X x) (hm : X.mg x = some (.ref f)) (hk : PySem.W.keepIn X.K (.ref f) = true) (hb : KBinds X.K fd ps ks g gV) (hx : Passes CX X E)
    (hkw : PK X kws tk) (hall : (backToKw pos (keywordEach kws X.env)).all (·.1.isSome) = true := by rfl) (hks : (backToKw pos (keywordEach kws X.env)).filterMap (·.1) = ks := by rfl)
    (hdb : (x == ("__debug__" : Str)) = false := by decide)
    (hpl : ((backTo pos (starEach [] X.env)).any (·.1) || (backToKw pos (keywordEach kws X.env)).any (·.1.isNone)) = false := by rfl) :
    PE X (.Call (.Name x p) [] kws pos) (tCallK0 sp gV E tk) := by
  refine ⟨fun pins s σ H Q I h => ?_⟩
  refine wpAny_Call_Name_kw (ld_glob I hg hm ?_ hdb)
  refine PySem.W.callWith_KW0 (h₀ := X.base) I.ok.mod.kin hk hall ?_ hpl
  refine thn (hkw.run pos pins s σ H _ I h) fun ws s2 ⟨zs, H2, I2, rz, q2⟩ => ⟨I2.kIn, ?_⟩
  rw [hks]
  exact run_fnk (us := []) (vs := []) F hr hb hx I2 .nil rz q2
end
/-! #### built-ins -/
def rINT : List V → Hp → VK → Prop := fun xs H Q => ((∃ i, xs = [.int i] ∧ Q (.int i) H) ∨ ∃ k, xs = [.bl k] ∧ Q (.int (if k then 1 else 0)) H) ∨ ∃ a n, xs = [.str a] ∧ PySem.intText? a = some n ∧ a.length ≤ 640 ∧ Q (.int n) H
theorem call_INT : CallR X (.type "int") rINT := call_int1.or call_int_str
def rSTR : List V → Hp → VK → Prop := fun xs H Q => ∃ i, xs = [.int i] ∧ i.natAbs.log2 < 1920 ∧ Q (.str (toString i)) H
theorem call_STR : CallR X (.type "str") rSTR := call_str_int
def rTUPLE (K : PySem.W.Frag) : List V → Hp → VK → Prop := fun xs H Q => ∃ p ys, xs = [.ref p] ∧ ((SqL K H p ys ∧ ∀ l, H l = none → Q (.ref l) (upd H l (.tup ys))) ∨ (SqT K H p ys ∧ Q (.ref p) H))
theorem call_TUPLE : CallR X (.type "tuple") (rTUPLE X.K) := call_tuple_of
def rLIST (K : PySem.W.Frag) : List V → Hp → VK → Prop := fun xs H Q => ∃ p ys, xs = [.ref p] ∧ (SqL K H p ys ∨ SqT K H p ys) ∧ ∀ l, H l = none → Q (.ref l) (upd H l (.lst ys))
theorem call_LIST : CallR X (.type "list") (rLIST X.K) := call_list_of
def rLenQ (K : PySem.W.Frag) : List V → Hp → VK → Prop := fun xs H Q => ∃ p ys, xs = [.ref p] ∧ (SqL K H p ys ∨ SqT K H p ys) ∧ Q (.int ys.length) H
def rLenS : List V → Hp → VK → Prop := fun xs H Q => ∃ z, xs = [.str z] ∧ z.length ≤ sizeLine ∧ Q (.int z.length) H
def rLEN (K : PySem.W.Frag) : List V → Hp → VK → Prop := fun xs H Q => rLenS xs H Q ∨ rLenQ K xs H Q
theorem call_LEN : CallR X (.builtin "len") (rLEN X.K) := CallR.or (r := rLenS) (r' := rLenQ X.K) call_len_str call_len_seq
def rABS : List V → Hp → VK → Prop := fun xs H Q => ∃ i, xs = [.int i] ∧ Q (.int (if i < 0 then -i else i)) H
theorem call_ABS : CallR X (.builtin "abs") rABS := call_abs
def rMAX2 : List V → Hp → VK → Prop := fun xs H Q => ∃ i j, xs = [.int i, .int j] ∧ Q (.int (if j > i then j else i)) H
theorem call_MAX2 (hc : X.calm = true) : CallR X (.builtin "max") rMAX2 := call_max2 hc
def rMIN2 : List V → Hp → VK → Prop := fun xs H Q => ∃ i j, xs = [.int i, .int j] ∧ Q (.int (if j < i then j else i)) H
theorem call_MIN2 (hc : X.calm = true) : CallR X (.builtin "min") rMIN2 := call_min2 hc
def rISI (K : PySem.W.Frag) : List V → Hp → VK → Prop := fun xs H Q => rIsi K xs H Q ∨ rIsiT K xs H Q
theorem call_ISI : CallR X (.builtin "isinstance") (rISI X.K) := call_isi.or call_isiT
/-! #### methods -/
def rM_isascii : V → List V → Hp → VK → Prop := fun x xs H Q => ∃ a, x = .str a ∧ xs = [] ∧ True ∧ Q (.bl (Txt.isascii a)) H
def rM_isprintable : V → List V → Hp → VK → Prop := fun x xs H Q => ∃ a, x = .str a ∧ xs = [] ∧ True ∧ Q (.bl (Txt.isprintable a)) H
def rM_isdigit : V → List V → Hp → VK → Prop := fun x xs H Q => ∃ a, x = .str a ∧ xs = [] ∧ True ∧ Q (.bl (Txt.isdigit a)) H
def rM_find : V → List V → Hp → VK → Prop := fun x xs H Q => ∃ a b, x = .str a ∧ xs = [.str b] ∧ Q (.int (Txt.find a b)) H
def rM_zfill : V → List V → Hp → VK → Prop := fun x xs H Q => ∃ (a : Str) (i : Int), x = .str a ∧ xs = [.int i] ∧ PadOk i = true ∧ Q (.str (Txt.zfill a i)) H
def rM_rjust : V → List V → Hp → VK → Prop := fun x xs H Q => ∃ (a : Str) (i : Int), x = .str a ∧ xs = [.int i] ∧ PadOk i = true ∧ Q (.str (Txt.rjust a i)) H
def rJoin (K : PySem.W.Frag) : V → List V → Hp → VK → Prop := fun x xs H Q => ∃ a p, ∃ ys : List Str, x = .str a ∧ xs = [.ref p] ∧ (SqL K H p (ys.map V.str) ∨ SqT K H p (ys.map V.str)) ∧
      (ys.map (·.length)).sum + ys.length * a.length ≤ 16777216 ∧ Q (.str (Txt.join a ys)) H
def rPOP : V → List V → Hp → VK → Prop := rPopAt
theorem mt_POP : MtR X "list.pop" rPOP := mt_popAt
theorem mt_FIND : MtR X "str.find" rM_find := mt_find
theorem mt_ZFILL : MtR X "str.zfill" rM_zfill := mt_zfill
theorem mt_RJUST : MtR X "str.rjust" rM_rjust := mt_rjust
/-- {x:0wd}: a number not below 0, with noughts ahead up to w signs -/
def zpad (w : Nat) (i : Int) : Str := ⟨(List.replicate (w - (Nat.toDigits 10 i.toNat).length) 48 ++ (Nat.toDigits 10 i.toNat).map Char.toNat).toArray⟩
end
end My

set_option Elab.async false
set_option linter.all false
set_option maxRecDepth 100000
set_option maxHeartbeats 400000
namespace My
open PySem PySem.Spec PyProof.Rows L2
section
variable {X : Cx}
theorem zpad_of {w : Nat} {a : Int} {D : List Nat} (h0 : 0 ≤ a) (hD : D = (Nat.toDigits 10 a.natAbs).map Char.toNat) (p1 : Nat) (p2 : Nat) (h1 : p1 = w - D.length) (h2 : p2 = 0) :
    (⟨(List.replicate 0 48 ++ [] ++ [] ++ List.replicate p2 48 ++ (List.replicate p1 48 ++ D) ++ [] ++ List.replicate 0 48).toArray⟩ : Str) = zpad w a := by
  subst hD h1 h2
  unfold zpad
  have e : a.natAbs = a.toNat := by omega
  rw [e, List.length_map]
  simp
theorem zpad_len {w : Nat} {a : Int} (h0 : 0 ≤ a) (hl : a.natAbs.log2 < 1920) (hw : w ≤ 100) : (zpad w a).length ≤ sizeLine := by
  have h1 : (Nat.toDigits 10 a.toNat).length ≤ 1921 := by
    have h2 : a.toNat < 10 ^ 1921 := by
      have h3 : a.toNat < 2 ^ 1920 := by
        have h4 : a.toNat = a.natAbs := by omega
        rw [h4]
        by_cases hz : a.natAbs = 0
        · rw [hz]; exact Nat.two_pow_pos _
        · exact (Nat.log2_lt hz).mp hl
      exact Nat.lt_of_lt_of_le h3 (Nat.le_trans (Nat.pow_le_pow_left (show 2 ≤ 10 by decide) 1920) (Nat.pow_le_pow_right (by decide) (by decide)))
    have h5 := (Nat.length_repr_le_iff (n := a.toNat) (k := 1921) (by decide)).mpr h2
    rwa [← String.length_toList, Nat.toList_repr] at h5
  show (List.toArray _).size ≤ sizeLine
  rw [List.size_toArray, List.length_append, List.length_replicate, List.length_map]
  exact Nat.le_trans (show _ ≤ 2100 by omega) (by decide)
theorem ret_text2 {M : Model} {A : Around} {E : Value → Shared → Prop} {s : Shared} {X T : PySem.Str} {Q : PySem.Fin → Shared → Prop} (e : X = T) (hL : T.length ≤ sizeLine) (h : ∀ t k, Q (.done (.ret (.str T t))) { s with toks := k }) : wpAny M A (retStr X) Q E s := by
  subst e
  exact PySem.W.KXf.ret_text rfl hL h
theorem fmt0_meets_3 {a : Int} {t : Tok} (h0 : 0 ≤ a) (hl : a.natAbs.log2 < 1920) :
  ∀ u, Meets (Builtin.«int.__format__» ⟨[.int a t, .str (Str.ofString "03d") u], []⟩) (fun _ R s => ∀ t' k, R (.ok (.ret (.str (zpad 3 a) t'))) { s with toks := k }) := by
  have hn : decide (a < 0) = false := decide_eq_false (by omega)
  intro u
  apply PySem.W.KPc.meets_of
  intro prog w A s Q E h
  unfold Builtin.«int.__format__»
  refine wpAny_bind (wpAny_of_eq (a := (_, _)) rfl ?_)
  refine wpAny_bind (wpAny_of_eq (a := _) rfl ?_)
  kxf_if
  refine wpAny_bind (wpAny_typeNameOf (T := "str") (typeIs_str _ _ _) (by decide) fun _ => ?_)
  refine wpAny_bind (wpAny_of_eq (a := some _) rfl ?_)
  kxf_if
  kxf_if
  refine wpAny_bind (wpAny_typeNameOfCut_int ?_)
  (repeat kxf_if)
  refine wpAny_bind (wpAny_of_eq (PySem.overDigitLimit_small hl) ?_)
  (repeat kxf_if)
  refine ret_text2 (T := zpad 3 a) ?_ (zpad_len h0 hl (by decide)) (fun t' k => h t' k)
  rw [hn]
  generalize hD : (List.map _ (Nat.toDigits _ a.natAbs)) = D
  have hD' : D = (Nat.toDigits 10 a.natAbs).map Char.toNat := hD.symm
  clear hD
  cases D with
  | nil => exact absurd (congrArg List.length hD') (by rw [List.length_map]; have := Nat.length_toDigits_pos (b := 10) (n := a.natAbs); simp; omega)
  | cons d ds =>
    refine zpad_of h0 hD' _ _ ?_ ?_
    · rfl
    · show ((3 : Int) - 0 - (((List.replicate (3 - (d :: ds).length) 48 ++ (d :: ds)).length : Nat) : Int)).toNat = 0
      rw [List.length_append, List.length_replicate]
      omega
theorem fmt0_meets_4 {a : Int} {t : Tok} (h0 : 0 ≤ a) (hl : a.natAbs.log2 < 1920) :
  ∀ u, Meets (Builtin.«int.__format__» ⟨[.int a t, .str (Str.ofString "04d") u], []⟩) (fun _ R s => ∀ t' k, R (.ok (.ret (.str (zpad 4 a) t'))) { s with toks := k }) := by
  have hn : decide (a < 0) = false := decide_eq_false (by omega)
  intro u
  apply PySem.W.KPc.meets_of
  intro prog w A s Q E h
  unfold Builtin.«int.__format__»
  refine wpAny_bind (wpAny_of_eq (a := (_, _)) rfl ?_)
  refine wpAny_bind (wpAny_of_eq (a := _) rfl ?_)
  kxf_if
  refine wpAny_bind (wpAny_typeNameOf (T := "str") (typeIs_str _ _ _) (by decide) fun _ => ?_)
  refine wpAny_bind (wpAny_of_eq (a := some _) rfl ?_)
  kxf_if
  kxf_if
  refine wpAny_bind (wpAny_typeNameOfCut_int ?_)
  (repeat kxf_if)
  refine wpAny_bind (wpAny_of_eq (PySem.overDigitLimit_small hl) ?_)
  (repeat kxf_if)
  refine ret_text2 (T := zpad 4 a) ?_ (zpad_len h0 hl (by decide)) (fun t' k => h t' k)
  rw [hn]
  generalize hD : (List.map _ (Nat.toDigits _ a.natAbs)) = D
  have hD' : D = (Nat.toDigits 10 a.natAbs).map Char.toNat := hD.symm
  clear hD
  cases D with
  | nil => exact absurd (congrArg List.length hD') (by rw [List.length_map]; have := Nat.length_toDigits_pos (b := 10) (n := a.natAbs); simp; omega)
  | cons d ds =>
    refine zpad_of h0 hD' _ _ ?_ ?_
    · rfl
    · show ((4 : Int) - 0 - (((List.replicate (4 - (d :: ds).length) 48 ++ (d :: ds)).length : Nat) : Int)).toNat = 0
      rw [List.length_append, List.length_replicate]
      omega
theorem fmt0_meets_6 {a : Int} {t : Tok} (h0 : 0 ≤ a) (hl : a.natAbs.log2 < 1920) :
  ∀ u, Meets (Builtin.«int.__format__» ⟨[.int a t, .str (Str.ofString "06d") u], []⟩) (fun _ R s => ∀ t' k, R (.ok (.ret (.str (zpad 6 a) t'))) { s with toks := k }) := by
  have hn : decide (a < 0) = false := decide_eq_false (by omega)
  intro u
  apply PySem.W.KPc.meets_of
  intro prog w A s Q E h
  unfold Builtin.«int.__format__»
  refine wpAny_bind (wpAny_of_eq (a := (_, _)) rfl ?_)
  refine wpAny_bind (wpAny_of_eq (a := _) rfl ?_)
  kxf_if
  refine wpAny_bind (wpAny_typeNameOf (T := "str") (typeIs_str _ _ _) (by decide) fun _ => ?_)
  refine wpAny_bind (wpAny_of_eq (a := some _) rfl ?_)
  kxf_if
  kxf_if
  refine wpAny_bind (wpAny_typeNameOfCut_int ?_)
  (repeat kxf_if)
  refine wpAny_bind (wpAny_of_eq (PySem.overDigitLimit_small hl) ?_)
  (repeat kxf_if)
  refine ret_text2 (T := zpad 6 a) ?_ (zpad_len h0 hl (by decide)) (fun t' k => h t' k)
  rw [hn]
  generalize hD : (List.map _ (Nat.toDigits _ a.natAbs)) = D
  have hD' : D = (Nat.toDigits 10 a.natAbs).map Char.toNat := hD.symm
  clear hD
  cases D with
  | nil => exact absurd (congrArg List.length hD') (by rw [List.length_map]; have := Nat.length_toDigits_pos (b := 10) (n := a.natAbs); simp; omega)
  | cons d ds =>
    refine zpad_of h0 hD' _ _ ?_ ?_
    · rfl
    · show ((6 : Int) - 0 - (((List.replicate (6 - (d :: ds).length) 48 ++ (d :: ds)).length : Nat) : Int)).toNat = 0
      rw [List.length_append, List.length_replicate]
      omega
theorem fmt0_meets_8 {a : Int} {t : Tok} (h0 : 0 ≤ a) (hl : a.natAbs.log2 < 1920) :
  ∀ u, Meets (Builtin.«int.__format__» ⟨[.int a t, .str (Str.ofString "08d") u], []⟩) (fun _ R s => ∀ t' k, R (.ok (.ret (.str (zpad 8 a) t'))) { s with toks := k }) := by
  have hn : decide (a < 0) = false := decide_eq_false (by omega)
  intro u
  apply PySem.W.KPc.meets_of
  intro prog w A s Q E h
  unfold Builtin.«int.__format__»
  refine wpAny_bind (wpAny_of_eq (a := (_, _)) rfl ?_)
  refine wpAny_bind (wpAny_of_eq (a := _) rfl ?_)
  kxf_if
  refine wpAny_bind (wpAny_typeNameOf (T := "str") (typeIs_str _ _ _) (by decide) fun _ => ?_)
  refine wpAny_bind (wpAny_of_eq (a := some _) rfl ?_)
  kxf_if
  kxf_if
  refine wpAny_bind (wpAny_typeNameOfCut_int ?_)
  (repeat kxf_if)
  refine wpAny_bind (wpAny_of_eq (PySem.overDigitLimit_small hl) ?_)
  (repeat kxf_if)
  refine ret_text2 (T := zpad 8 a) ?_ (zpad_len h0 hl (by decide)) (fun t' k => h t' k)
  rw [hn]
  generalize hD : (List.map _ (Nat.toDigits _ a.natAbs)) = D
  have hD' : D = (Nat.toDigits 10 a.natAbs).map Char.toNat := hD.symm
  clear hD
  cases D with
  | nil => exact absurd (congrArg List.length hD') (by rw [List.length_map]; have := Nat.length_toDigits_pos (b := 10) (n := a.natAbs); simp; omega)
  | cons d ds =>
    refine zpad_of h0 hD' _ _ ?_ ?_
    · rfl
    · show ((8 : Int) - 0 - (((List.replicate (8 - (d :: ds).length) 48 ++ (d :: ds)).length : Nat) : Int)).toNat = 0
      rw [List.length_append, List.length_replicate]
      omega
/-- 0wd: the specs that are served -/
def FmtW (spec : Str) (w : Nat) : Prop := (spec = Str.ofString "06d" ∧ w = 6) ∨ (spec = Str.ofString "04d" ∧ w = 4) ∨ (spec = Str.ofString "03d" ∧ w = 3) ∨ (spec = Str.ofString "08d" ∧ w = 8)
def tFmt0 (w : Nat) (te : TE) : TE := fun σ H Q => te σ H fun x H1 => ∃ i : Int, x = .int i ∧ 0 ≤ i ∧ i.natAbs.log2 < 1920 ∧ Q (.str (zpad w i)) H1
theorem pe_fmt0 (w : Nat) {spec : Str} {e : Expr} {te : TE} {j : Nat} {p1 p2 pos : Pos} (he : PE X e te) (hs : FmtW spec w := by first | exact .inl ⟨rfl, rfl⟩ | exact .inr (.inl ⟨rfl, rfl⟩) | exact .inr (.inr (.inl ⟨rfl, rfl⟩)) | exact .inr (.inr (.inr ⟨rfl, rfl⟩))) :
    PE X (.FormattedValue e (-1) (some (.JoinedStr [.Constant (.str spec) j p1] p2)) pos) (tFmt0 w te) := by
  refine ⟨fun pins s σ H Q I h => ?_⟩
  refine wpAny_FormattedValue_spec (thn (he.run pins s σ H _ I h) fun v s1 hv => ?_)
  obtain ⟨x, H1, I1, r1, i, rfl, h0, hl, q⟩ := hv
  obtain ⟨t, rfl⟩ := r1
  refine wpAny_JoinedStr_one (Calls.Constant_str ⟨spec, _, rfl, ?_⟩)
  rcases hs with ⟨rfl, rfl⟩ | ⟨rfl, rfl⟩ | ⟨rfl, rfl⟩ | ⟨rfl, rfl⟩
  · exact PySem.W.KXf.field_int rfl (by decide) (by decide) (fmt0_meets_6 h0 hl) fun t' k => ⟨.str (zpad 6 i), H1, I1.tok _, ⟨t', rfl⟩, q⟩
  · exact PySem.W.KXf.field_int rfl (by decide) (by decide) (fmt0_meets_4 h0 hl) fun t' k => ⟨.str (zpad 4 i), H1, I1.tok _, ⟨t', rfl⟩, q⟩
  · exact PySem.W.KXf.field_int rfl (by decide) (by decide) (fmt0_meets_3 h0 hl) fun t' k => ⟨.str (zpad 3 i), H1, I1.tok _, ⟨t', rfl⟩, q⟩
  · exact PySem.W.KXf.field_int rfl (by decide) (by decide) (fmt0_meets_8 h0 hl) fun t' k => ⟨.str (zpad 8 i), H1, I1.tok _, ⟨t', rfl⟩, q⟩
end
end My

set_option Elab.async false
set_option linter.all false
set_option maxRecDepth 100000
set_option maxHeartbeats 400000
/-! ### readings, step by step -/
namespace My
open PySem PySem.Spec PyProof.Rows L2
abbrev St := L2.St
section
variable {K : PySem.W.Frag} {σ : St} {H : Hp} {Q : VK} {ta tb tc te : TE} {t u c : TT} {tr tr' : TA} {r r' : R2} {v x y z : V}
theorem x_var {i : Nat} (h : σ[i]? = some (some v)) (q : Q v H) : tVar i σ H Q := ⟨v, h, q⟩
theorem x_c (q : Q v H) : tC v σ H Q := q
theorem x_op (h : ta σ H fun x H1 => tb σ H1 fun y H2 => r x y H2 Q) : tOp r ta tb σ H Q := h
theorem x_un {r : V → Hp → VK → Prop} (h : ta σ H fun x H1 => r x H1 Q) : tUn r ta σ H Q := h
theorem x_tst {Q : Bool → Hp → Prop} (h : te σ H fun x H' => ∃ k, x = .bl k ∧ Q k H') : tTest te σ H Q := h
theorem x_bl {Q : Bool → Hp → Prop} {b : Bool} (h : Q b H) : ∃ k, V.bl b = .bl k ∧ Q k H := ⟨b, rfl, h⟩
theorem x_tru {Q : Bool → Hp → Prop} (h : ta σ H fun x H' => ∃ k, TruV K x H' k ∧ Q k H') : tTru1 K ta σ H Q := h
theorem x_truB {P : Bool → Prop} {b : Bool} (h : P b) : ∃ k, TruV K (.bl b) H k ∧ P k := ⟨b, rfl, h⟩
theorem x_truL {P : Bool → Prop} {p : Addr} {xs : List V} (hs : SqL K H p xs) (h : P (!xs.isEmpty)) : ∃ k, TruV K (.ref p) H k ∧ P k := ⟨_, .inl ⟨xs, hs, rfl⟩, h⟩
theorem x_truT {P : Bool → Prop} {p : Addr} {xs : List V} (hs : SqT K H p xs) (h : P (!xs.isEmpty)) : ∃ k, TruV K (.ref p) H k ∧ P k := ⟨_, .inr (.inl ⟨xs, hs, rfl⟩), h⟩
theorem x_truS {P : Bool → Prop} {s : Str} (hs : s.length ≤ sizeLine) (h : P ((s.length : Int) != 0)) : ∃ k, TruV K (.str s) H k ∧ P k := ⟨_, ⟨hs, rfl⟩, h⟩
theorem x_not {Q : Bool → Hp → Prop} (h : t σ H fun c H1 => Q (!c) H1) : tNot t σ H Q := h
theorem x_and {Q : Bool → Hp → Prop} (h : t σ H fun c H1 => if c = true then u σ H1 Q else Q false H1) : tAnd t u σ H Q := h
theorem x_or {Q : Bool → Hp → Prop} (h : t σ H fun c H1 => if c = true then Q true H1 else u σ H1 Q) : tOr t u σ H Q := h
theorem x_andV (h : ta σ H fun x H1 => ∃ c, x = .bl c ∧ if c = true then tb σ H1 Q else Q (.bl false) H1) : tAndV ta tb σ H Q := h
theorem x_orV (h : ta σ H fun x H1 => ∃ c, x = .bl c ∧ if c = true then Q (.bl true) H1 else tb σ H1 Q) : tOrV ta tb σ H Q := h
theorem x_notV (h : ta σ H fun x H1 => ∃ c, x = .bl c ∧ Q (.bl (!c)) H1) : tNotV ta σ H Q := h
theorem x_bl2 {b : Bool} {P : Bool → Prop} (h : P b) : ∃ k, V.bl b = .bl k ∧ P k := ⟨b, rfl, h⟩
theorem x_yes {Q : Bool → Hp → Prop} (h : Q true H) : tYes σ H Q := h
theorem x_if (h : c σ H fun b H1 => if b = true then ta σ H1 Q else tb σ H1 Q) : tIf c ta tb σ H Q := h
theorem x_nil {Q : List V → Hp → Prop} (q : Q [] H) : tNil σ H Q := q
theorem x_cons {Q : List V → Hp → Prop} (h : ta σ H fun x H1 => tr σ H1 fun xs H2 => Q (x :: xs) H2) : tCons ta tr σ H Q := h
theorem x_tup (h : tr σ H fun xs H1 => xs.length ≤ sizeLine ∧ ∀ p, H1 p = none → Q (.ref p) (upd H1 p (.tup xs))) : tTup tr σ H Q := h
theorem x_lst (h : tr σ H fun xs H1 => xs.length ≤ sizeLine ∧ ∀ p, H1 p = none → Q (.ref p) (upd H1 p (.lst xs))) : tLst tr σ H Q := h
theorem x_call {sp : Sp} {E : XK} (h : tr σ H fun vs H1 => sp vs H1 Q E) : tCall sp [] E tr σ H Q := by
  have e : (fun (vs : List V) (H1 : Hp) => sp (vs ++ []) H1 Q E) = fun vs H1 => sp vs H1 Q E := by funext vs H1; rw [List.append_nil]
  show tr σ H fun vs H1 => sp (vs ++ []) H1 Q E
  rw [e]
  exact h
theorem x_callK {sp : Sp} {gV : List V → List V → List V} {E : XK} (h : tr σ H fun vs H1 => tr' σ H1 fun zs H2 => sp (gV vs zs) H2 Q E) : tCallK sp gV E tr tr' σ H Q := h
theorem x_callK0 {sp : Sp} {gV : List V → List V → List V} {E : XK} (h : tr σ H fun zs H2 => sp (gV [] zs) H2 Q E) : tCallK0 sp gV E tr σ H Q := h
theorem x_cb {r : List V → Hp → VK → Prop} (h : tr σ H fun vs H1 => r vs H1 Q) : tCB r tr σ H Q := h
theorem x_bm {T : String} {r : V → List V → Hp → VK → Prop} (h : ta σ H fun x H1 => tyV K T x H1 ∧ tr σ H1 fun xs H2 => r x xs H2 Q) : tBM K T r ta tr σ H Q := h
theorem x_bm0 {T : String} {r : V → List V → Hp → VK → Prop} (h : ta σ H fun x H1 => tyV K T x H1 ∧ r x [] H1 Q) : tBM0 K T r ta σ H Q := h
theorem x_tyS {s : Str} {P : Prop} (h : P) : tyV K "str" (.str s) H ∧ P := ⟨rfl, h⟩
theorem x_tyL {p : Addr} {xs : List V} {P : Prop} (hs : SqL K H p xs) (h : P) : tyV K "list" (.ref p) H ∧ P := ⟨.inl ⟨rfl, xs, hs⟩, h⟩
theorem x_sl {r : V → Option Int → Option Int → Hp → VK → Prop} {tl th : TO} (h : te σ H fun x H1 => tl σ H1 fun l H2 => th σ H2 fun u H3 => r x l u H3 Q) : tSl r te tl th σ H Q := h
theorem x_nopart {Q : Option Int → Hp → Prop} (h : Q none H) : tNoPart σ H Q := h
theorem x_part {Q : Option Int → Hp → Prop} (h : te σ H fun x H1 => ∃ i, x = .int i ∧ Q (some i) H1) : tPart te σ H Q := h
theorem x_int {i : Int} {P : Int → Prop} (h : P i) : ∃ k, V.int i = .int k ∧ P k := ⟨i, rfl, h⟩
theorem x_str {s : Str} {P : Str → Prop} (h : P s) : ∃ k, V.str s = .str k ∧ P k := ⟨s, rfl, h⟩
theorem x_fmt (h : te σ H fun x H1 => (∃ y : Str, x = .str y ∧ y.length ≤ sizeLine ∧ Q (.str y) H1) ∨ ∃ i : Int, x = .int i ∧ i.natAbs.log2 < 1920 ∧ Q (.str (toString i)) H1) : tFmt te σ H Q := h
theorem x_fmtS {s : Str} {P : Int → Prop} (hs : s.length ≤ sizeLine) (h : Q (.str s) H) : (∃ y : Str, V.str s = .str y ∧ y.length ≤ sizeLine ∧ Q (.str y) H) ∨ ∃ i : Int, V.str s = .int i ∧ i.natAbs.log2 < 1920 ∧ Q (.str (toString i)) H := .inl ⟨s, rfl, hs, h⟩
theorem x_fmt0 {w : Nat} (h : te σ H fun x H1 => ∃ i : Int, x = .int i ∧ 0 ≤ i ∧ i.natAbs.log2 < 1920 ∧ Q (.str (zpad w i)) H1) : tFmt0 w te σ H Q := h
theorem x_fmtI {w : Nat} {i : Int} (h0 : 0 ≤ i) (hl : i.natAbs.log2 < 1920) (h : Q (.str (zpad w i)) H) : ∃ k : Int, V.int i = .int k ∧ 0 ≤ k ∧ k.natAbs.log2 < 1920 ∧ Q (.str (zpad w k)) H := ⟨i, rfl, h0, hl, h⟩
theorem x_js0 {acc : Str} {Q : Str → Hp → Prop} (h : Q acc H) : tJs [] acc σ H Q := h
theorem x_js {acc : Str} {Q : Str → Hp → Prop} {ts : List TE} (h : te σ H fun x H1 => ∃ y : Str, x = .str y ∧ (acc ++ y).length ≤ sizeLine ∧ tJs ts (acc ++ y) σ H1 Q) : tJs (te :: ts) acc σ H Q := h
theorem x_jsS {s acc : Str} {Q : Str → Hp → Prop} {ts : List TE} (hs : (acc ++ s).length ≤ sizeLine) (h : tJs ts (acc ++ s) σ H Q) : ∃ y : Str, V.str s = .str y ∧ (acc ++ y).length ≤ sizeLine ∧ tJs ts (acc ++ y) σ H Q := ⟨s, rfl, hs, h⟩
theorem x_chain (h : ta σ H fun x H1 => tb σ H1 fun y H2 => r x y H2 fun z H3 => ∃ k, z = .bl k ∧ (if k = true then tc σ H3 fun w' H4 => r' y w' H4 Q else Q (.bl false) H3)) : tChain r r' ta tb tc σ H Q := h
/-! leaves -/
theorem a_ii {i j : Int} (h : Q (.int (i + j)) H) : rADD K (.int i) (.int j) H Q := .inl ⟨i, j, rfl, rfl, h⟩
theorem a_ss {i j : Str} (hl : i.length + j.length ≤ sizeLine) (h : Q (.str (i ++ j)) H) : rADD K (.str i) (.str j) H Q := .inr (.inl ⟨i, j, rfl, rfl, hl, h⟩)
theorem a_ll {p q : Addr} {xs ys : List V} (hp : H p = some (.lst xs)) (hq : H q = some (.lst ys)) (hl : xs.length + ys.length ≤ sizeLine) (h : ∀ l, H l = none → Q (.ref l) (upd H l (.lst (xs ++ ys)))) : rADD K (.ref p) (.ref q) H Q :=
  .inr (.inr (.inl ⟨p, q, xs, ys, rfl, rfl, hp, hq, hl, h⟩))
theorem a_tt {p q : Addr} {xs ys : List V} (hp : SqT K H p xs) (hq : SqT K H q ys) (hl : xs.length + ys.length ≤ sizeLine) (h : (xs = [] → Q (.ref q) H) ∧ (xs ≠ [] → ys = [] → Q (.ref p) H) ∧ (xs ≠ [] → ys ≠ [] → ∀ l, H l = none → Q (.ref l) (upd H l (.tup (xs ++ ys))))) : rADD K (.ref p) (.ref q) H Q :=
  .inr (.inr (.inr ⟨p, q, xs, ys, rfl, rfl, hp, hq, hl, h⟩))
theorem s_ii {i j : Int} (h : Q (.int (i - j)) H) : rSUB (.int i) (.int j) H Q := ⟨i, j, rfl, rfl, h⟩
theorem m_ii {i j : Int} (hc : CMulA i j) (h : Q (.int (i * j)) H) : rMUL K (.int i) (.int j) H Q := .inl ⟨i, j, rfl, rfl, hc, h⟩
theorem m_si {s : Str} {k : Int} (h1 : -(2 ^ 63) ≤ k) (h2 : k < 2 ^ 63) (hl : s.length * k.toNat ≤ sizeLine) (h : Q (.str (repS s k)) H) : rMUL K (.str s) (.int k) H Q := .inr (.inl ⟨s, k, rfl, rfl, h1, h2, hl, h⟩)
theorem m_li {p : Addr} {xs : List V} {k : Int} (hp : H p = some (.lst xs)) (h1 : -(2 ^ 63) ≤ k) (h2 : k < 2 ^ 63) (hl : xs.length * k.toNat ≤ sizeLine) (h : ∀ l, H l = none → Q (.ref l) (upd H l (.lst (List.replicate k.toNat xs).flatten))) : rMUL K (.ref p) (.int k) H Q :=
  .inr (.inr ⟨p, k, xs, rfl, rfl, hp, h1, h2, hl, h⟩)
theorem md_ii {i j : Int} (hc : 0 < j) (h : Q (.int (i % j)) H) : rMOD (.int i) (.int j) H Q := ⟨i, j, rfl, rfl, hc, h⟩
theorem fd_ii {i j : Int} (hc : CDivW i j) (h : Q (.int (i / j)) H) : rFDIV (.int i) (.int j) H Q := ⟨i, j, rfl, rfl, hc, h⟩
theorem pw_ii {i j : Int} (hc : CPow i j) (h : Q (.int (i ^ j.toNat)) H) : rPOW (.int i) (.int j) H Q := ⟨i, j, rfl, rfl, hc, h⟩
theorem n_i {i : Int} (h : Q (.int (-i)) H) : rNEG (.int i) H Q := ⟨i, rfl, h⟩
theorem e_ii {i j : Int} (h : Q (.bl (decide (i = j))) H) : rEQ K (.int i) (.int j) H Q := .inl ⟨rfl, by rw [show decide (V.int i = V.int j) = decide (i = j) by simp]; exact h⟩
theorem e_ss {i j : Str} (h : Q (.bl (decide (i = j))) H) : rEQ K (.str i) (.str j) H Q := .inl ⟨rfl, by rw [show decide (V.str i = V.str j) = decide (i = j) by simp]; exact h⟩
theorem e_bb {i j : Bool} (h : Q (.bl (decide (i = j))) H) : rEQ K (.bl i) (.bl j) H Q := .inl ⟨rfl, by rw [show decide (V.bl i = V.bl j) = decide (i = j) by simp]; exact h⟩
theorem e_d {d e : PyData} (hd : Dp K H x d) (he : Dp K H y e) (h1 : SeqAt.shaped d = true) (h2 : SeqAt.shaped e = true) (h : Q (.bl (PyData.eqv d e)) H) : rEQ K x y H Q := .inr ⟨d, e, hd, he, h1, h2, h⟩
theorem ne_ii {i j : Int} (h : Q (.bl (!decide (i = j))) H) : rNE K (.int i) (.int j) H Q := .inl ⟨rfl, by rw [show decide (V.int i = V.int j) = decide (i = j) by simp]; exact h⟩
theorem ne_ss {i j : Str} (h : Q (.bl (!decide (i = j))) H) : rNE K (.str i) (.str j) H Q := .inl ⟨rfl, by rw [show decide (V.str i = V.str j) = decide (i = j) by simp]; exact h⟩
theorem ne_bb {i j : Bool} (h : Q (.bl (!decide (i = j))) H) : rNE K (.bl i) (.bl j) H Q := .inl ⟨rfl, by rw [show decide (V.bl i = V.bl j) = decide (i = j) by simp]; exact h⟩
theorem ne_d {d e : PyData} (hd : Dp K H x d) (he : Dp K H y e) (h1 : SeqAt.shaped d = true) (h2 : SeqAt.shaped e = true) (h : Q (.bl (!PyData.eqv d e)) H) : rNE K x y H Q := .inr ⟨d, e, hd, he, h1, h2, h⟩
theorem lt_ii {i j : Int} (h : Q (.bl (decide (i < j))) H) : rLT (.int i) (.int j) H Q := .inl ⟨i, j, rfl, rfl, h⟩
theorem lt_ss {i j : Str} (h : Q (.bl (decide (i.cps.toList < j.cps.toList))) H) : rLT (.str i) (.str j) H Q := .inr ⟨i, j, rfl, rfl, h⟩
theorem le_ii {i j : Int} (h : Q (.bl (decide (i ≤ j))) H) : rLE (.int i) (.int j) H Q := .inl ⟨i, j, rfl, rfl, h⟩
theorem gt_ii {i j : Int} (h : Q (.bl (decide (j < i))) H) : rGT (.int i) (.int j) H Q := .inl ⟨i, j, rfl, rfl, h⟩
theorem gt_ss {i j : Str} (h : Q (.bl (decide (j.cps.toList < i.cps.toList))) H) : rGT (.str i) (.str j) H Q := .inr ⟨i, j, rfl, rfl, h⟩
theorem ge_ii {i j : Int} (h : Q (.bl (decide (j ≤ i))) H) : rGE (.int i) (.int j) H Q := .inl ⟨i, j, rfl, rfl, h⟩
theorem is_N (h : Q (.bl (decide (x = .non))) H) : rIS K x .non H Q := .inl ⟨rfl, h⟩
theorem is_T {m n : String} (h : Q (.bl (decide (m = n))) H) : rIS K (.ty m) (.ty n) H Q := .inr (.inl ⟨m, n, rfl, rfl, h⟩)
theorem is_B {b : Bool} (h : Q (.bl (decide (x = .bl b))) H) : rIS K x (.bl b) H Q := .inr (.inr ⟨b, rfl, h⟩)
theorem isn_N (h : Q (.bl (!decide (x = .non))) H) : rISN K x .non H Q := .inl ⟨rfl, h⟩
theorem isn_T {m n : String} (h : Q (.bl (!decide (m = n))) H) : rISN K (.ty m) (.ty n) H Q := .inr (.inl ⟨m, n, rfl, rfl, h⟩)
theorem isn_B {b : Bool} (h : Q (.bl (!decide (x = .bl b))) H) : rISN K x (.bl b) H Q := .inr (.inr ⟨b, rfl, h⟩)
theorem in_s {c : Nat} {z : Str} (h : Q (.bl (decide (c ∈ z.cps.toList))) H) : rINU K (.str ⟨#[c]⟩) (.str z) H Q := .inl ⟨c, z, rfl, rfl, h⟩
theorem nin_s {c : Nat} {z : Str} (h : Q (.bl (!decide (c ∈ z.cps.toList))) H) : rNINU K (.str ⟨#[c]⟩) (.str z) H Q := .inl ⟨c, z, rfl, rfl, h⟩
theorem ix_L {p : Addr} {xs : List V} {i : Int} (hs : SqL K H p xs) (ha : atI xs i = some v) (h : Q v H) : rIX K (.ref p) (.int i) H Q := .inl ⟨p, xs, i, v, rfl, rfl, hs, ha, h⟩
theorem ix_T {p : Addr} {xs : List V} {i : Int} (hs : SqT K H p xs) (ha : atI xs i = some v) (h : Q v H) : rIX K (.ref p) (.int i) H Q := .inr (.inl ⟨p, xs, i, v, rfl, rfl, hs, ha, h⟩)
theorem ix_S {z : Str} {i : Int} {c : Nat} (hl : z.length ≤ sizeLine) (ha : atI z.cps.toList i = some c) (h : Q (.str ⟨#[c]⟩) H) : rIX K (.str z) (.int i) H Q := .inr (.inr ⟨z, i, c, rfl, rfl, hl, ha, h⟩)
theorem sl_S {z : Str} {lo hi : Option Int} (hl : z.length ≤ sizeLine) (h : Q (.str (cutS z lo hi)) H) : rSL K (.str z) lo hi H Q := .inl ⟨z, rfl, hl, h⟩
theorem sl_L {p : Addr} {xs : List V} {lo hi : Option Int} (hs : SqL K H p xs) (h : ∀ l, H l = none → Q (.ref l) (upd H l (.lst (cutV xs lo hi)))) : rSL K (.ref p) lo hi H Q := .inr (.inl ⟨p, xs, rfl, hs, h⟩)
theorem i_i {i : Int} (h : Q (.int i) H) : rINT [.int i] H Q := .inl (.inl ⟨i, rfl, h⟩)
theorem i_b {b : Bool} (h : Q (.int (if b then 1 else 0)) H) : rINT [.bl b] H Q := .inl (.inr ⟨b, rfl, h⟩)
theorem i_s {a : Str} {n : Int} (ha : PySem.intText? a = some n) (hl : a.length ≤ 640) (h : Q (.int n) H) : rINT [.str a] H Q := .inr ⟨a, n, rfl, ha, hl, h⟩
theorem st_i {i : Int} (hl : i.natAbs.log2 < 1920) (h : Q (.str (toString i)) H) : rSTR [.int i] H Q := ⟨i, rfl, hl, h⟩
theorem ln_s {z : Str} (hl : z.length ≤ sizeLine) (h : Q (.int z.length) H) : rLEN K [.str z] H Q := .inl ⟨z, rfl, hl, h⟩
theorem ln_l {p : Addr} {xs : List V} (hs : SqL K H p xs) (h : Q (.int xs.length) H) : rLEN K [.ref p] H Q := .inr ⟨p, xs, rfl, .inl hs, h⟩
theorem ln_t {p : Addr} {xs : List V} (hs : SqT K H p xs) (h : Q (.int xs.length) H) : rLEN K [.ref p] H Q := .inr ⟨p, xs, rfl, .inr hs, h⟩
theorem ab_i {i : Int} (h : Q (.int (if i < 0 then -i else i)) H) : rABS [.int i] H Q := ⟨i, rfl, h⟩
theorem mx_ii {i j : Int} (h : Q (.int (if j > i then j else i)) H) : rMAX2 [.int i, .int j] H Q := ⟨i, j, rfl, h⟩
theorem mn_ii {i j : Int} (h : Q (.int (if j < i then j else i)) H) : rMIN2 [.int i, .int j] H Q := ⟨i, j, rfl, h⟩
theorem ty_N (h : Q (.ty "NoneType") H) : rTyp K [.non] H Q := ⟨_, _, rfl, .non, h⟩
theorem ty_B {b : Bool} (h : Q (.ty "bool") H) : rTyp K [.bl b] H Q := ⟨_, _, rfl, .bl b, h⟩
theorem ty_I {i : Int} (h : Q (.ty "int") H) : rTyp K [.int i] H Q := ⟨_, _, rfl, .int i, h⟩
theorem ty_S {s : Str} (h : Q (.ty "str") H) : rTyp K [.str s] H Q := ⟨_, _, rfl, .str s, h⟩
theorem ty_L {p : Addr} {xs : List V} (hs : SqL K H p xs) (h : Q (.ty "list") H) : rTyp K [.ref p] H Q := ⟨_, _, rfl, .lst hs, h⟩
theorem ty_T {p : Addr} {xs : List V} (hs : SqT K H p xs) (h : Q (.ty "tuple") H) : rTyp K [.ref p] H Q := ⟨_, _, rfl, .tup hs, h⟩
theorem ma_s {s : Str} (h : Q (.bl (Txt.isascii s)) H) : rM_isascii (.str s) [] H Q := ⟨s, rfl, rfl, True.intro, h⟩
theorem mp_s {s : Str} (h : Q (.bl (Txt.isprintable s)) H) : rM_isprintable (.str s) [] H Q := ⟨s, rfl, rfl, True.intro, h⟩
theorem mdg_s {s : Str} (h : Q (.bl (Txt.isdigit s)) H) : rM_isdigit (.str s) [] H Q := ⟨s, rfl, rfl, True.intro, h⟩
theorem mf_s {s u : Str} (h : Q (.int (Txt.find s u)) H) : rM_find (.str s) [.str u] H Q := ⟨s, u, rfl, rfl, h⟩
theorem al_b {p : Addr} {bs : List Bool} (hs : SqL K H p (bs.map V.bl)) (h : Q (.bl (bs.all id)) H) : rAll K [.ref p] H Q := ⟨p, bs, rfl, hs, h⟩
/-! statements -/
variable {n b k : St → Hp → Prop} {rt : VK} {p q s w : TS} {g : TG} {D : Ends}
theorem s_seq (h : p ⟨q ⟨n, rt, b, k⟩, rt, b, k⟩ σ H) : tSeq p q ⟨n, rt, b, k⟩ σ H := h
theorem s_asg (h : te σ H fun x H1 => g x σ H1 n) : tAsg te g ⟨n, rt, b, k⟩ σ H := h
theorem s_gn {i : Nat} {N : St → Hp → Prop} (h : N (σ.set i (some v)) H) : gName i v σ H N := h
theorem s_if (h : c σ H fun d H1 => if d = true then p D σ H1 else q D σ H1) : tIfS c p q D σ H := h
theorem s_ret (h : te σ H rt) : tRet te ⟨n, rt, b, k⟩ σ H := h
theorem s_retN (h : rt .non H) : tRetN ⟨n, rt, b, k⟩ σ H := h
theorem s_next (h : n σ H) : tNext ⟨n, rt, b, k⟩ σ H := h
theorem s_brk (h : b σ H) : tBreak ⟨n, rt, b, k⟩ σ H := h
theorem s_cont (h : k σ H) : tCont ⟨n, rt, b, k⟩ σ H := h
theorem s_drop (h : te σ H fun _ H1 => n σ H1) : tDrop te ⟨n, rt, b, k⟩ σ H := h
theorem s_par {i j : Nat} (h : tr σ H fun vs H1 => ∃ v w, vs = [v, w] ∧ n ((σ.set i (some v)).set j (some w)) H1) : tPar i j tr ⟨n, rt, b, k⟩ σ H := h
theorem s_par3 {i j l : Nat} (h : tr σ H fun vs H1 => ∃ u v w, vs = [u, v, w] ∧ n (((σ.set i (some u)).set j (some v)).set l (some w)) H1) : tPar3 i j l tr ⟨n, rt, b, k⟩ σ H := h
theorem x_gsub {to ti : TE} {t : TSet} {N : St → Hp → Prop} (h : to σ H fun o H1 => ti σ H1 fun i H2 => t o i v H2 fun H3 => N σ H3) : gSub to ti t v σ H N := h
theorem st_L {p : Addr} {xs : List V} {i : Int} {N : Hp → Prop} (hp : H p = some (.lst xs)) (h0 : 0 ≤ i) (h1 : i < (xs.length : Int)) (h : N (upd H p (.lst (xs.set i.toNat v)))) : rSetL (.ref p) (.int i) v H N := by
  refine ⟨p, xs, i, i.toNat, rfl, rfl, hp, ?_, h⟩
  unfold ixN
  rw [if_pos h0]
  first | rw [if_pos h1] | simp [h1]
theorem pop_L {p : Addr} {x : V} {xs : List V} (hp : H p = some (.lst (x :: xs))) (h : Q x (upd H p (.lst xs))) : rPOP (.ref p) [.int 0] H Q := by
  refine ⟨p, x :: xs, 0, 0, x, rfl, rfl, hp, by decide, by decide, ?_, rfl, h⟩
  simp [seqIndex?]
theorem w_while {c : TT} {tb : TS} (W : Nat → St → Hp → Prop) (m0 : Nat) (h0 : W m0 σ H) (hs : ∀ m σ H, W m σ H → c σ H fun d H1 => if d = true then ∃ N : St → Hp → Prop, (∀ σ' H', N σ' H' → ∃ m', m' < m ∧ W m' σ' H') ∧ tb ⟨N, rt, n, N⟩ σ H1 else n σ H1) : tWhile c tb ⟨n, rt, b, k⟩ σ H :=
  ⟨W, ⟨m0, h0⟩, hs⟩
/-! loops -/
def LoopW (J : It) (g : TG) (tb : TS) (n : St → Hp → Prop) (rt : VK) (σ : St) (H : Hp) : Prop := ∃ W : Nat → Nat → St → Hp → Prop, (∃ m, W 0 m σ H) ∧ ∀ i m σ H, W i m σ H →
  (J.stop i H ∧ n σ H) ∨ (J.go i H ∧ ∃ N : St → Hp → Prop, (∀ σ' H', N σ' H' → ∃ m', m' < m ∧ W (i + 1) m' σ' H') ∧ ∀ x H', J.yld i H x H' → g x σ H' fun σ2 H2 => tb ⟨N, rt, n, N⟩ σ2 H2)
def ForR1 (g : TG) (tb : TS) (n : St → Hp → Prop) (rt : VK) (σ : St) (vs : List V) (H : Hp) : Prop := ∃ j : Int, vs = [.int j] ∧ -(2 ^ 62) ≤ j ∧ j < 2 ^ 62 ∧ LoopW (Itr 0 j.toNat) g tb n rt σ H
def ForR2 (g : TG) (tb : TS) (n : St → Hp → Prop) (rt : VK) (σ : St) (vs : List V) (H : Hp) : Prop := ∃ i j : Int, vs = [.int i, .int j] ∧ (-(2 ^ 62) ≤ i ∧ i < 2 ^ 62 ∧ -(2 ^ 62) ≤ j ∧ j < 2 ^ 62) ∧ LoopW (Itr i (j - i).toNat) g tb n rt σ H
def ForL (K : PySem.W.Frag) (g : TG) (tb : TS) (n : St → Hp → Prop) (rt : VK) (σ : St) (x : V) (H : Hp) : Prop := ∃ a, x = .ref a ∧ (∃ xs, SqL K H a xs) ∧ LoopW (Itl K a) g tb n rt σ H
def ForT (K : PySem.W.Frag) (g : TG) (tb : TS) (n : St → Hp → Prop) (rt : VK) (σ : St) (x : V) (H : Hp) : Prop := ∃ a, x = .ref a ∧ (∃ xs, SqT K H a xs) ∧ LoopW (Itt K a) g tb n rt σ H
def ForS (g : TG) (tb : TS) (n : St → Hp → Prop) (rt : VK) (σ : St) (x : V) (H : Hp) : Prop := ∃ z, x = .str z ∧ LoopW (Its z) g tb n rt σ H
theorem f_r1 (h : tr σ H fun vs H1 => ForR1 g p n rt σ vs H1) : tFor (iRng1 tr) g p ⟨n, rt, b, k⟩ σ H := h
theorem f_r2 (h : tr σ H fun vs H1 => ForR2 g p n rt σ vs H1) : tFor (iRng2 tr) g p ⟨n, rt, b, k⟩ σ H := h
theorem f_l (h : te σ H fun x H1 => ForL K g p n rt σ x H1) : tFor (iList K te) g p ⟨n, rt, b, k⟩ σ H := h
theorem f_t (h : te σ H fun x H1 => ForT K g p n rt σ x H1) : tFor (iTup K te) g p ⟨n, rt, b, k⟩ σ H := h
theorem f_s (h : te σ H fun x H1 => ForS g p n rt σ x H1) : tFor (iStr te) g p ⟨n, rt, b, k⟩ σ H := h
theorem loopR {lo : Int} {m : Nat} (Pv : Nat → St → Hp → Prop) (h0 : Pv 0 σ H) (hs : ∀ i σ H, i < m → Pv i σ H → g (.int (lo + i)) σ H fun σ2 H2 => p ⟨Pv (i + 1), rt, n, Pv (i + 1)⟩ σ2 H2) (hd : ∀ σ H, Pv m σ H → n σ H) : LoopW (Itr lo m) g p n rt σ H := for_range (D := ⟨n, rt, n, n⟩) Pv h0 hs hd
theorem loopL {a : Addr} {xs : List V} (Pv : Nat → St → Hp → Prop) (h0 : Pv 0 σ H) (hl : ∀ i σ H, i ≤ xs.length → Pv i σ H → SqL K H a xs) (hs : ∀ i x σ H, xs[i]? = some x → Pv i σ H → g x σ H fun σ2 H2 => p ⟨Pv (i + 1), rt, n, Pv (i + 1)⟩ σ2 H2) (hd : ∀ σ H, Pv xs.length σ H → n σ H) : LoopW (Itl K a) g p n rt σ H := for_list (D := ⟨n, rt, n, n⟩) Pv h0 hl hs hd
theorem loopT {a : Addr} {xs : List V} (Pv : Nat → St → Hp → Prop) (h0 : Pv 0 σ H) (hl : ∀ i σ H, i ≤ xs.length → Pv i σ H → SqT K H a xs) (hs : ∀ i x σ H, xs[i]? = some x → Pv i σ H → g x σ H fun σ2 H2 => p ⟨Pv (i + 1), rt, n, Pv (i + 1)⟩ σ2 H2) (hd : ∀ σ H, Pv xs.length σ H → n σ H) : LoopW (Itt K a) g p n rt σ H := for_tup (D := ⟨n, rt, n, n⟩) Pv h0 hl hs hd
theorem for1_mk {j : Int} (hj : -(2 ^ 62) ≤ j) (hj2 : j < 2 ^ 62) (Pv : Nat → St → Hp → Prop) (h0 : Pv 0 σ H) (hs : ∀ (i : Nat) σ H, i < j.toNat → Pv i σ H → g (.int (i : Int)) σ H fun σ2 H2 => p ⟨Pv (i + 1), rt, n, Pv (i + 1)⟩ σ2 H2) (hd : ∀ σ H, Pv j.toNat σ H → n σ H) : ForR1 g p n rt σ [.int j] H :=
  ⟨j, rfl, hj, hj2, loopR Pv h0 (fun i σ H hi hp => by rw [Int.zero_add]; exact hs i σ H hi hp) hd⟩
theorem for2_mk {lo j : Int} (hj : -(2 ^ 62) ≤ lo ∧ lo < 2 ^ 62 ∧ -(2 ^ 62) ≤ j ∧ j < 2 ^ 62) (Pv : Nat → St → Hp → Prop) (h0 : Pv 0 σ H) (hs : ∀ (i : Nat) σ H, i < (j - lo).toNat → Pv i σ H → g (.int (lo + (i : Int))) σ H fun σ2 H2 => p ⟨Pv (i + 1), rt, n, Pv (i + 1)⟩ σ2 H2) (hd : ∀ σ H, Pv (j - lo).toNat σ H → n σ H) : ForR2 g p n rt σ [.int lo, .int j] H :=
  ⟨lo, j, rfl, hj, loopR Pv h0 hs hd⟩
theorem forL_mk {a : Addr} {xs : List V} (hx : SqL K H a xs) (Pv : Nat → St → Hp → Prop) (h0 : Pv 0 σ H) (hl : ∀ i σ H, i ≤ xs.length → Pv i σ H → SqL K H a xs) (hs : ∀ i x σ H, xs[i]? = some x → Pv i σ H → g x σ H fun σ2 H2 => p ⟨Pv (i + 1), rt, n, Pv (i + 1)⟩ σ2 H2) (hd : ∀ σ H, Pv xs.length σ H → n σ H) : ForL K g p n rt σ (.ref a) H := ⟨a, rfl, ⟨xs, hx⟩, loopL Pv h0 hl hs hd⟩
theorem forT_mk {a : Addr} {xs : List V} (hx : SqT K H a xs) (Pv : Nat → St → Hp → Prop) (h0 : Pv 0 σ H) (hl : ∀ i σ H, i ≤ xs.length → Pv i σ H → SqT K H a xs) (hs : ∀ i x σ H, xs[i]? = some x → Pv i σ H → g x σ H fun σ2 H2 => p ⟨Pv (i + 1), rt, n, Pv (i + 1)⟩ σ2 H2) (hd : ∀ σ H, Pv xs.length σ H → n σ H) : ForT K g p n rt σ (.ref a) H := ⟨a, rfl, ⟨xs, hx⟩, loopT Pv h0 hl hs hd⟩
/-! comprehensions -/
def LcW (J : It) (g : TG) (tt : TT) (te : TE) (vs : List Nat) (σ : St) (Q : VK) (H1 : Hp) : Prop := ∀ D, H1 D = none → ∃ W : Nat → Nat → Hp → Prop, (∃ m, W 0 m (upd H1 D (.lst []))) ∧ ∀ i m H, W i m H →
  (J.stop i H ∧ Q (.ref D) H) ∨ (J.go i H ∧ ∃ Nx : Hp → Prop, (∀ H', Nx H' → ∃ m', m' < m ∧ W (i + 1) m' H') ∧ ∀ x H', J.yld i H x H' → g x (wipe σ vs) H' fun σ2 H2 => wipe σ2 vs = wipe σ vs ∧ tt σ2 H2 fun b H3 =>
    if b = true then te σ2 H3 fun y H4 => ∃ acc, H4 D = some (.lst acc) ∧ acc.length < sizeLine ∧ Nx (upd H4 D (.lst (acc ++ [y]))) else Nx H3)
def LcR1 (g : TG) (tt : TT) (te : TE) (ws : List Nat) (σ : St) (Q : VK) (vs : List V) (H : Hp) : Prop := ∃ j : Int, vs = [.int j] ∧ -(2 ^ 62) ≤ j ∧ j < 2 ^ 62 ∧ LcW (Itr 0 j.toNat) g tt te ws σ Q H
def LcR2 (g : TG) (tt : TT) (te : TE) (ws : List Nat) (σ : St) (Q : VK) (vs : List V) (H : Hp) : Prop := ∃ i j : Int, vs = [.int i, .int j] ∧ (-(2 ^ 62) ≤ i ∧ i < 2 ^ 62 ∧ -(2 ^ 62) ≤ j ∧ j < 2 ^ 62) ∧ LcW (Itr i (j - i).toNat) g tt te ws σ Q H
def LcL (K : PySem.W.Frag) (g : TG) (tt : TT) (te : TE) (ws : List Nat) (σ : St) (Q : VK) (x : V) (H : Hp) : Prop := ∃ a, x = .ref a ∧ (∃ xs, SqL K H a xs) ∧ LcW (Itl K a) g tt te ws σ Q H
def LcT (K : PySem.W.Frag) (g : TG) (tt : TT) (te : TE) (ws : List Nat) (σ : St) (Q : VK) (x : V) (H : Hp) : Prop := ∃ a, x = .ref a ∧ (∃ xs, SqT K H a xs) ∧ LcW (Itt K a) g tt te ws σ Q H
def LcS (g : TG) (tt : TT) (te : TE) (ws : List Nat) (σ : St) (Q : VK) (x : V) (H : Hp) : Prop := ∃ z, x = .str z ∧ LcW (Its z) g tt te ws σ Q H
variable {ws : List Nat}
theorem c_r1 (h : tr σ H fun vs H1 => LcR1 g t te ws σ Q vs H1) : tLc (iRng1 tr) g t te ws σ H Q := h
theorem c_r2 (h : tr σ H fun vs H1 => LcR2 g t te ws σ Q vs H1) : tLc (iRng2 tr) g t te ws σ H Q := h
theorem c_l (h : ta σ H fun x H1 => LcL K g t te ws σ Q x H1) : tLc (iList K ta) g t te ws σ H Q := h
theorem c_t (h : ta σ H fun x H1 => LcT K g t te ws σ Q x H1) : tLc (iTup K ta) g t te ws σ H Q := h
theorem c_s (h : ta σ H fun x H1 => LcS g t te ws σ Q x H1) : tLc (iStr ta) g t te ws σ H Q := h
theorem lcR1_mk {j : Int} (hj : -(2 ^ 62) ≤ j) (hj2 : j < 2 ^ 62) (Pv : Addr → Nat → Hp → Prop) (h0 : ∀ D, H D = none → Pv D 0 (upd H D (.lst [])))
    (hs : ∀ D (i : Nat) H', H D = none → i < j.toNat → Pv D i H' → g (.int (i : Int)) (wipe σ ws) H' fun σ2 H2 => wipe σ2 ws = wipe σ ws ∧ t σ2 H2 fun b H3 => if b = true then te σ2 H3 fun y H4 => ∃ acc, H4 D = some (.lst acc) ∧ acc.length < sizeLine ∧ Pv D (i + 1) (upd H4 D (.lst (acc ++ [y]))) else Pv D (i + 1) H3)
    (hd : ∀ D H', H D = none → Pv D j.toNat H' → Q (.ref D) H') : LcR1 g t te ws σ Q [.int j] H :=
  ⟨j, rfl, hj, hj2, fun D hD => lc_range (lo := 0) (n := j.toNat) (Pv D) (h0 D hD) (fun i H hi hp => by rw [Int.zero_add]; exact hs D i H hD hi hp) (fun H' hp => hd D H' hD hp)⟩
theorem lcR2_mk {lo j : Int} (hj : -(2 ^ 62) ≤ lo ∧ lo < 2 ^ 62 ∧ -(2 ^ 62) ≤ j ∧ j < 2 ^ 62) (Pv : Addr → Nat → Hp → Prop) (h0 : ∀ D, H D = none → Pv D 0 (upd H D (.lst [])))
    (hs : ∀ D (i : Nat) H', H D = none → i < (j - lo).toNat → Pv D i H' → g (.int (lo + (i : Int))) (wipe σ ws) H' fun σ2 H2 => wipe σ2 ws = wipe σ ws ∧ t σ2 H2 fun b H3 => if b = true then te σ2 H3 fun y H4 => ∃ acc, H4 D = some (.lst acc) ∧ acc.length < sizeLine ∧ Pv D (i + 1) (upd H4 D (.lst (acc ++ [y]))) else Pv D (i + 1) H3)
    (hd : ∀ D H', H D = none → Pv D (j - lo).toNat H' → Q (.ref D) H') : LcR2 g t te ws σ Q [.int lo, .int j] H :=
  ⟨lo, j, rfl, hj, fun D hD => lc_range (lo := lo) (n := (j - lo).toNat) (Pv D) (h0 D hD) (fun i H hi hp => hs D i H hD hi hp) (fun H' hp => hd D H' hD hp)⟩
theorem lcL_mk {a : Addr} {xs : List V} (hx : SqL K H a xs) (Pv : Addr → Nat → Hp → Prop) (h0 : ∀ D, H D = none → Pv D 0 (upd H D (.lst []))) (hl : ∀ D i H', H D = none → i ≤ xs.length → Pv D i H' → SqL K H' a xs)
    (hs : ∀ D i x H', H D = none → xs[i]? = some x → Pv D i H' → g x (wipe σ ws) H' fun σ2 H2 => wipe σ2 ws = wipe σ ws ∧ t σ2 H2 fun b H3 => if b = true then te σ2 H3 fun y H4 => ∃ acc, H4 D = some (.lst acc) ∧ acc.length < sizeLine ∧ Pv D (i + 1) (upd H4 D (.lst (acc ++ [y]))) else Pv D (i + 1) H3)
    (hd : ∀ D H', H D = none → Pv D xs.length H' → Q (.ref D) H') : LcL K g t te ws σ Q (.ref a) H :=
  ⟨a, rfl, ⟨xs, hx⟩, fun D hD => lc_list (xs := xs) (Pv D) (h0 D hD) (fun i H hi hp => hl D i H hD hi hp) (fun i x H hi hp => hs D i x H hD hi hp) (fun H' hp => hd D H' hD hp)⟩
theorem lcT_mk {a : Addr} {xs : List V} (hx : SqT K H a xs) (Pv : Addr → Nat → Hp → Prop) (h0 : ∀ D, H D = none → Pv D 0 (upd H D (.lst []))) (hl : ∀ D i H', H D = none → i ≤ xs.length → Pv D i H' → SqT K H' a xs)
    (hs : ∀ D i x H', H D = none → xs[i]? = some x → Pv D i H' → g x (wipe σ ws) H' fun σ2 H2 => wipe σ2 ws = wipe σ ws ∧ t σ2 H2 fun b H3 => if b = true then te σ2 H3 fun y H4 => ∃ acc, H4 D = some (.lst acc) ∧ acc.length < sizeLine ∧ Pv D (i + 1) (upd H4 D (.lst (acc ++ [y]))) else Pv D (i + 1) H3)
    (hd : ∀ D H', H D = none → Pv D xs.length H' → Q (.ref D) H') : LcT K g t te ws σ Q (.ref a) H :=
  ⟨a, rfl, ⟨xs, hx⟩, fun D hD => lc_tup (xs := xs) (Pv D) (h0 D hD) (fun i H hi hp => hl D i H hD hi hp) (fun i x H hi hp => hs D i x H hD hi hp) (fun H' hp => hd D H' hD hp)⟩
theorem s_cut (M : St → Hp → Prop) (h : p ⟨M, rt, b, k⟩ σ H) (hq : ∀ σ' H', M σ' H' → q ⟨n, rt, b, k⟩ σ' H') : Evl.tCut p q ⟨n, rt, b, k⟩ σ H := ⟨M, h, hq⟩
theorem s_p2 {P : V → V → Prop} (h : P x y) : ∃ v w, [x, y] = [v, w] ∧ P v w := ⟨x, y, rfl, h⟩
theorem s_p3 {P : V → V → V → Prop} (h : P x y z) : ∃ u v w, [x, y, z] = [u, v, w] ∧ P u v w := ⟨x, y, z, rfl, h⟩
theorem iteTd {p : Prop} [Decidable p] {A B : Prop} (h : p) (q : A) : if decide p = true then A else B := by
  rw [decide_eq_true h]
  exact iteT q
theorem iteFd {p : Prop} [Decidable p] {A B : Prop} (h : ¬ p) (q : B) : if decide p = true then A else B := by
  rw [decide_eq_false h]
  exact iteF q
theorem iteNt {A B : Prop} (q : B) : if (!true) = true then A else B := iteF q
theorem iteNf {A B : Prop} (q : A) : if (!false) = true then A else B := iteT q
theorem iteNd {p : Prop} [Decidable p] {A B : Prop} (h : p) (q : B) : if (!decide p) = true then A else B := by
  rw [decide_eq_true h]
  exact iteF q
theorem iteNdF {p : Prop} [Decidable p] {A B : Prop} (h : ¬ p) (q : A) : if (!decide p) = true then A else B := by
  rw [decide_eq_false h]
  exact iteT q
theorem ite2' {c : Bool} {A B : Prop} (h1 : c = true → A) (h2 : c = false → B) : if c = true then A else B := by
  cases c with
  | true => exact h1 rfl
  | false => exact h2 rfl
end
end My

set_option Elab.async false
set_option linter.all false
set_option maxRecDepth 100000
set_option maxHeartbeats 400000
/-! ### texts as lists of codes; heaps -/
namespace My
open PySem PySem.Spec PyProof.Rows L2
abbrev S (l : List Nat) : Str := SX.S l
theorem S_cps (l : List Nat) : (S l).cps.toList = l := rfl
theorem S_len (l : List Nat) : (S l).length = l.length := SX.S_len l
theorem S_eta (z : Str) : z = S z.cps.toList := by
  rcases z with ⟨⟨l⟩⟩
  rfl
theorem S_app (a b : List Nat) : S a ++ S b = S (a ++ b) := by
  show (⟨a.toArray ++ b.toArray⟩ : Str) = ⟨(a ++ b).toArray⟩
  simp
theorem S_inj {a b : List Nat} (h : S a = S b) : a = b := congrArg (fun z : Str => z.cps.toList) h
theorem S_eq (a b : List Nat) : decide (S a = S b) = decide (a = b) := by
  by_cases h : a = b
  · subst h; simp
  · have h2 : ¬ S a = S b := fun e => h (S_inj e)
    rw [decide_eq_false h, decide_eq_false h2]
theorem S_one (c : Nat) : (⟨#[c]⟩ : Str) = S [c] := rfl
/-! slices -/
theorem cut_from (l : List Nat) (a : Nat) : cutS (S l) (some (a : Int)) none = S (l.drop a) := by
  unfold cutS
  rw [S_len, HT.sIx_nat, HT.sIx_none, S_cps]
  apply congrArg S
  rcases Nat.le_total a l.length with h | h
  · rw [Nat.min_eq_left h]
    exact List.take_of_length_le (by rw [List.length_drop]; exact Nat.le_refl _)
  · rw [Nat.min_eq_right h, List.drop_eq_nil_of_le h]
    simp
theorem cut_to (l : List Nat) (b : Nat) : cutS (S l) none (some (b : Int)) = S (l.take b) := by
  unfold cutS
  rw [S_len, HT.sIx_nat, HT.sIx_none, S_cps]
  apply congrArg S
  rw [List.drop_zero, Nat.sub_zero]
  rcases Nat.le_total b l.length with h | h
  · rw [Nat.min_eq_left h]
  · rw [Nat.min_eq_right h, List.take_of_length_le (Nat.le_refl _), List.take_of_length_le h]
theorem cut_mid (l : List Nat) (a b : Nat) : cutS (S l) (some (a : Int)) (some (b : Int)) = S ((l.take b).drop a) := by
  unfold cutS
  rw [S_len, HT.sIx_nat, HT.sIx_nat, S_cps]
  apply congrArg S
  rw [List.drop_take]
  rcases Nat.le_total a l.length with h | h
  · rw [Nat.min_eq_left h]
    rcases Nat.le_total b l.length with h2 | h2
    · rw [Nat.min_eq_left h2]
    · rw [Nat.min_eq_right h2, List.take_of_length_le (by rw [List.length_drop]; exact Nat.le_refl _), List.take_of_length_le (by rw [List.length_drop]; omega)]
  · rw [Nat.min_eq_right h, List.drop_eq_nil_of_le h]
    simp
theorem cut_fromI (l : List Nat) {a : Int} (h : 0 ≤ a) : cutS (S l) (some a) none = S (l.drop a.toNat) := by
  have e := cut_from l a.toNat
  rwa [Int.toNat_of_nonneg h] at e
theorem cut_toI (l : List Nat) {a : Int} (h : 0 ≤ a) : cutS (S l) none (some a) = S (l.take a.toNat) := by
  have e := cut_to l a.toNat
  rwa [Int.toNat_of_nonneg h] at e
theorem cut_midI (l : List Nat) {a b : Int} (h : 0 ≤ a) (h2 : 0 ≤ b) : cutS (S l) (some a) (some b) = S ((l.take b.toNat).drop a.toNat) := by
  have e := cut_mid l a.toNat b.toNat
  rwa [Int.toNat_of_nonneg h, Int.toNat_of_nonneg h2] at e
theorem repS_S (l : List Nat) (k : Int) : repS (S l) k = S (List.replicate k.toNat l).flatten := rfl
theorem join_S (ys : List (List Nat)) : Txt.join (S []) (ys.map S) = S ys.flatten := by
  rw [SX.join_S]
  apply congrArg S
  induction ys with
  | nil => rfl
  | cons y ys ih =>
    cases ys with
    | nil => simp [TL.joinL]
    | cons z zs =>
      have e : TL.joinL [] (y :: z :: zs) = y ++ ([] ++ TL.joinL [] (z :: zs)) := by first | rfl | simp [TL.joinL]
      rw [e, ih]
      rfl
/-! an item at a place -/
theorem at_nat {α : Type} {xs : List α} {i : Int} {v : α} (h0 : 0 ≤ i) (h : xs[i.toNat]? = some v) : atI xs i = some v := by
  have e := atI_nat h
  rwa [Int.toNat_of_nonneg h0] at e
theorem at_in {α : Type} {xs : List α} {i : Int} (h0 : 0 ≤ i) (h : i < (xs.length : Int)) : atI xs i = some (xs[i.toNat]'(by omega)) := at_nat h0 (List.getElem?_eq_getElem (by omega))
/-! leaves over S -/
section
variable {K : PySem.W.Frag} {H : Hp} {Q : VK} {l m : List Nat} {a b : Int}
theorem big_line {n : Nat} (h : n ≤ 1000000) : n ≤ sizeLine := Nat.le_trans h (by decide)
theorem sl_to (ha : 0 ≤ a) (hl : l.length ≤ 1000000) (q : Q (.str (S (l.take a.toNat))) H) : rSL K (.str (S l)) none (some a) H Q := sl_S (by rw [S_len]; exact big_line hl) (by rw [cut_toI l ha]; exact q)
theorem sl_from (ha : 0 ≤ a) (hl : l.length ≤ 1000000) (q : Q (.str (S (l.drop a.toNat))) H) : rSL K (.str (S l)) (some a) none H Q := sl_S (by rw [S_len]; exact big_line hl) (by rw [cut_fromI l ha]; exact q)
theorem sl_mid (ha : 0 ≤ a) (hb : 0 ≤ b) (hl : l.length ≤ 1000000) (q : Q (.str (S ((l.take b.toNat).drop a.toNat))) H) : rSL K (.str (S l)) (some a) (some b) H Q := sl_S (by rw [S_len]; exact big_line hl) (by rw [cut_midI l ha hb]; exact q)
theorem a_SS (hl : l.length + m.length ≤ 1000000) (q : Q (.str (S (l ++ m))) H) : rADD K (.str (S l)) (.str (S m)) H Q := a_ss (by rw [S_len, S_len]; exact big_line hl) (by rw [S_app]; exact q)
theorem ln_S (hl : l.length ≤ 1000000) (q : Q (.int l.length) H) : rLEN K [.str (S l)] H Q := ln_s (by rw [S_len]; exact big_line hl) (by rw [S_len]; exact q)
theorem ix_SS (h0 : 0 ≤ a) (h1 : a < (l.length : Int)) (hl : l.length ≤ 1000000) (q : ∀ c, l[a.toNat]? = some c → Q (.str (S [c])) H) : rIX K (.str (S l)) (.int a) H Q :=
  ix_S (by rw [S_len]; exact big_line hl) (at_in h0 h1) (q _ (List.getElem?_eq_getElem (by omega)))
theorem e_SS (q : Q (.bl (decide (l = m))) H) : rEQ K (.str (S l)) (.str (S m)) H Q := e_ss (by rw [S_eq]; exact q)
theorem ne_SS (q : Q (.bl (!decide (l = m))) H) : rNE K (.str (S l)) (.str (S m)) H Q := ne_ss (by rw [S_eq]; exact q)
theorem m_SI (h1 : a < 2 ^ 40) (h0 : 0 ≤ a) (hl : l.length * a.toNat ≤ 1000000) (q : Q (.str (S (List.replicate a.toNat l).flatten)) H) : rMUL K (.str (S l)) (.int a) H Q := m_si (by omega) (by omega) (by rw [S_len]; exact big_line hl) q
theorem jn_0 {p : Addr} {ys : List (List Nat)} (hp : SqL K H p ((ys.map S).map V.str)) (hl : ys.flatten.length ≤ 1000000) (q : Q (.str (S ys.flatten)) H) : rJoin K (.str (S [])) [.ref p] H Q := by
  refine ⟨S [], p, ys.map S, rfl, rfl, .inl hp, ?_, by rw [join_S]; exact q⟩
  have e : ((ys.map S).map (·.length)).sum = ys.flatten.length := by
    rw [List.length_flatten, List.map_map]
    apply congrArg List.sum
    exact List.map_congr_left fun l _ => S_len l
  rw [e, S_len]
  exact Nat.le_trans (by simpa using hl) (by decide)
end
/-! printing ASCII -/
def isT (l : List Nat) : Bool := l.all fun c => decide (32 ≤ c) && decide (c ≤ 126)
theorem printable_lt {c : Nat} (h : c < 128) : Unicode.isPrintable c = (decide (32 ≤ c) && decide (c ≤ 126)) := by
  have h2 : ∀ c : _root_.Fin 128, Unicode.isPrintable c.val = (decide (32 ≤ c.val) && decide (c.val ≤ 126)) := by decide +kernel
  exact h2 ⟨c, h⟩
theorem digit_lt {c : Nat} (h : c < 128) : Unicode.isDigit c = (decide (48 ≤ c) && decide (c ≤ 57)) := by
  have h2 : ∀ c : _root_.Fin 128, Unicode.isDigit c.val = (decide (48 ≤ c.val) && decide (c.val ≤ 57)) := by decide +kernel
  exact h2 ⟨c, h⟩
theorem is_text_eq (l : List Nat) : (Txt.isascii (S l) && Txt.isprintable (S l)) = isT l := by
  unfold Txt.isascii Txt.isprintable isT
  rw [← Array.all_toList, ← Array.all_toList, S_cps]
  induction l with
  | nil => rfl
  | cons c l ih =>
    simp only [List.all_cons]
    rw [← ih]
    by_cases h : c < 128
    · rw [printable_lt h, decide_eq_true h]
      cases (decide (32 ≤ c) && decide (c ≤ 126)) <;> cases (l.all fun x => decide (x < 128)) <;> cases (l.all Unicode.isPrintable) <;> rfl
    · rw [decide_eq_false h]
      have h2 : (decide (32 ≤ c) && decide (c ≤ 126)) = false := by
        rw [decide_eq_false (show ¬ c ≤ 126 by omega), Bool.and_false]
      rw [h2]
      rfl
def isD (l : List Nat) : Bool := l.all fun c => decide (48 ≤ c) && decide (c ≤ 57)
theorem isT_mem {l : List Nat} (h : isT l = true) {c : Nat} (hc : c ∈ l) : 32 ≤ c ∧ c ≤ 126 := by
  have z := List.all_eq_true.mp h c hc
  rw [Bool.and_eq_true, decide_eq_true_eq, decide_eq_true_eq] at z
  exact z
theorem isT_of {l : List Nat} (h : ∀ c ∈ l, 32 ≤ c ∧ c ≤ 126) : isT l = true := List.all_eq_true.mpr fun c hc => by
  rw [Bool.and_eq_true, decide_eq_true_eq, decide_eq_true_eq]
  exact h c hc
theorem isT_app {a b : List Nat} : isT (a ++ b) = (isT a && isT b) := List.all_append
theorem isT_take {a : List Nat} (n : Nat) (h : isT a = true) : isT (a.take n) = true := isT_of fun _ hc => isT_mem h (List.mem_of_mem_take hc)
theorem isT_drop {a : List Nat} (n : Nat) (h : isT a = true) : isT (a.drop n) = true := isT_of fun _ hc => isT_mem h (List.mem_of_mem_drop hc)
theorem isdigit_eq {l : List Nat} (h : isT l = true) : Txt.isdigit (S l) = (decide (l ≠ []) && isD l) := by
  unfold Txt.isdigit isD
  rw [← Array.all_toList, S_cps, S_len]
  have e : l.all Unicode.isDigit = l.all fun c => decide (48 ≤ c) && decide (c ≤ 57) := by
    rw [Bool.eq_iff_iff, List.all_eq_true, List.all_eq_true]
    constructor
    · intro z c hc
      rw [← digit_lt (by have := isT_mem h hc; omega)]
      exact z c hc
    · intro z c hc
      rw [digit_lt (by have := isT_mem h hc; omega)]
      exact z c hc
  rw [e]
  cases l with
  | nil => rfl
  | cons c l => simp
/-! lists of texts, of numbers -/
def TxtAll (n : Nat) (xs : List V) : Prop := ∀ x ∈ xs, ∃ l : List Nat, l.length ≤ n ∧ isT l = true ∧ x = V.str (S l)
theorem txt_nil {n : Nat} : TxtAll n [] := fun _ h => by cases h
theorem txt_cons {n : Nat} {l : List Nat} {xs : List V} (h1 : l.length ≤ n) (h2 : isT l = true) (h : TxtAll n xs) : TxtAll n (.str (S l) :: xs) := fun x hx => by
  rcases List.mem_cons.mp hx with rfl | hx
  · exact ⟨l, h1, h2, rfl⟩
  · exact h x hx
theorem txt_app {n : Nat} {xs ys : List V} (h1 : TxtAll n xs) (h2 : TxtAll n ys) : TxtAll n (xs ++ ys) := fun x hx => (List.mem_append.mp hx).elim (h1 x) (h2 x)
theorem ix_txt {K : PySem.W.Frag} {H : Hp} {Q : VK} {p : Addr} {zs : List V} {n : Nat} {i : Int} (hp : SqL K H p zs) (ha : TxtAll n zs) (h0 : 0 ≤ i) (h1 : i < (zs.length : Int)) (q : ∀ l : List Nat, l.length ≤ n → isT l = true → Q (.str (S l)) H) : rIX K (.ref p) (.int i) H Q := by
  refine ix_L hp (at_in h0 h1) ?_
  have hi : i.toNat < zs.length := by omega
  obtain ⟨l, a, b, e⟩ := ha zs[i.toNat] (List.getElem_mem hi)
  rw [e]
  exact q l a b
def IntAll (n : Nat) (xs : List V) : Prop := ∀ x ∈ xs, ∃ z : Nat, z < n ∧ x = V.int z
theorem int_nil {n : Nat} : IntAll n [] := fun _ h => by cases h
theorem int_cons {n : Nat} {i : Int} {xs : List V} (h0 : 0 ≤ i) (h1 : i < (n : Int)) (h : IntAll n xs) : IntAll n (.int i :: xs) := fun x hx => by
  rcases List.mem_cons.mp hx with rfl | hx
  · exact ⟨i.toNat, by omega, by rw [Int.toNat_of_nonneg h0]⟩
  · exact h x hx
theorem ix_int {K : PySem.W.Frag} {H : Hp} {Q : VK} {p : Addr} {zs : List V} {n : Nat} {i : Int} (hp : SqL K H p zs) (ha : IntAll n zs) (h0 : 0 ≤ i) (h1 : i < (zs.length : Int)) (q : ∀ z : Nat, z < n → Q (.int z) H) : rIX K (.ref p) (.int i) H Q := by
  refine ix_L hp (at_in h0 h1) ?_
  have hi : i.toNat < zs.length := by omega
  obtain ⟨z, a, e⟩ := ha zs[i.toNat] (List.getElem_mem hi)
  rw [e]
  exact q z a
def IntP (F : Nat → Prop) (xs : List V) : Prop := ∀ x ∈ xs, ∃ z : Nat, F z ∧ x = V.int z
theorem intp_nil {F : Nat → Prop} : IntP F [] := fun _ h => by cases h
theorem intp_cons {F : Nat → Prop} {i : Int} {xs : List V} (h0 : 0 ≤ i) (h1 : F i.toNat) (h : IntP F xs) : IntP F (.int i :: xs) := fun x hx => by
  rcases List.mem_cons.mp hx with rfl | hx
  · exact ⟨i.toNat, h1, by rw [Int.toNat_of_nonneg h0]⟩
  · exact h x hx
theorem ix_intp {K : PySem.W.Frag} {H : Hp} {Q : VK} {p : Addr} {zs : List V} {F : Nat → Prop} {i : Int} (hp : SqL K H p zs) (ha : IntP F zs) (h0 : 0 ≤ i) (h1 : i < (zs.length : Int)) (q : ∀ z : Nat, F z → Q (.int z) H) : rIX K (.ref p) (.int i) H Q := by
  refine ix_L hp (at_in h0 h1) ?_
  have hi : i.toNat < zs.length := by omega
  obtain ⟨z, a, e⟩ := ha zs[i.toNat] (List.getElem_mem hi)
  rw [e]
  exact q z a
/-! heaps -/
theorem same_upd {H : Hp} {p : Addr} {o : HO} (h : H p = none) : Same H (upd H p o) := fun b x e => by
  rw [upd_ne (ne_of_none e h)]
  exact e
theorem same_mut {R H : Hp} {p : Addr} {o : HO} (e : Same R H) (h : R p = none) : Same R (upd H p o) := fun a u ha => by
  rw [upd_ne (ne_of_none ha h)]
  exact e a u ha
theorem same_sqt {K : PySem.W.Frag} {H H' : Hp} {a : Addr} {xs : List V} (e : Same H H') (h : SqT K H a xs) : SqT K H' a xs := by
  rcases h with (h | ⟨o, h⟩) | h
  · exact .inl (.inl (e _ _ h))
  · exact .inl (.inr ⟨o, e _ _ h⟩)
  · exact .inr h
theorem same_new {R H : Hp} {p : Addr} {o : HO} (e : Same R H) (h : H p = none) : Same R (upd H p o) := e.trans (same_upd h)
theorem lst_of {K : PySem.W.Frag} {H : Hp} {a : Addr} {xs : List V} (h : H a = some (.lst xs)) : SqL K H a xs := .inl (.inl h)
theorem tup_of {K : PySem.W.Frag} {H : Hp} {a : Addr} {xs : List V} (h : H a = some (.tup xs)) : SqT K H a xs := .inl (.inl h)
mutual
theorem dp_mono {K : PySem.W.Frag} {H H' : Hp} (e : Same H H') : ∀ (d : PyData) (v : V), Dp K H v d → Dp K H' v d
  | _, _, .non => .non
  | _, _, .bl b => .bl b
  | _, _, .int i => .int i
  | _, _, .str x => .str x
  | .list ds, _, .lst h a => .lst (e.seq h) (dpAll_mono e ds _ a)
  | .tuple ds, _, .tup h a => .tup (same_sqt e h) (dpAll_mono e ds _ a)
theorem dpAll_mono {K : PySem.W.Frag} {H H' : Hp} (e : Same H H') : ∀ (ds : List PyData) (vs : List V), DpAll K H vs ds → DpAll K H' vs ds
  | _, _, .nil => .nil
  | d :: ds, v :: vs, .cons h t => .cons (dp_mono e d v h) (dpAll_mono e ds vs t)
end
theorem ne_new {H : Hp} {a p : Addr} {o : HO} (h : H a = some o) (hp : H p = none) : p ≠ a := fun e => by
  subst e
  rw [hp] at h
  cases h
end My

set_option Elab.async false
set_option linter.all false
set_option maxRecDepth 100000
set_option maxHeartbeats 400000
/-! ### data; isinstance; a comprehension over a range with a step -/
namespace My
open PySem PySem.Spec PyProof.Rows L2
def tyName : PyData → String
  | .none => "NoneType"
  | .bool _ => "bool"
  | .int _ => "int"
  | .str _ => "str"
  | .list _ => "list"
  | .tuple _ => "tuple"
  | .dict _ => "dict"
theorem tyx_l {K : PySem.W.Frag} {H : Hp} {a : Addr} {xs : List V} (h : SqL K H a xs) : TyX K H (.ref a) (.type "list") := by
  rcases h with (h | ⟨o, h⟩) | h
  · exact .base (.lst h)
  · exact .base (.frz h)
  · obtain ⟨o, its, n, h1, h2, _⟩ := h
    exact .kList h1 h2
theorem tyx_t {K : PySem.W.Frag} {H : Hp} {a : Addr} {xs : List V} (h : SqT K H a xs) : TyX K H (.ref a) (.type "tuple") := by
  rcases h with (h | ⟨o, h⟩) | h
  · exact .base (.tup h)
  · exact .fTuple h
  · obtain ⟨o, its, n, h1, h2, _⟩ := h
    exact .kTuple h1 h2
theorem tyx_d {K : PySem.W.Frag} {H : Hp} {x : V} {d : PyData} (h : Dp K H x d) : TyX K H x (.type (tyName d)) := by
  cases h with
  | non => exact .base .non
  | bl b => exact .base (.bl b)
  | int i => exact .base (.int i)
  | str z => exact .base (.str z)
  | lst h _ => exact tyx_l h
  | tup h _ => exact tyx_t h
section
variable {K : PySem.W.Frag} {H : Hp} {Q : VK} {x : V} {d : PyData}
theorem isi_d {n : String} {b : Bool} (h : Dp K H x d) (hb : kitB (tyName d) n = some b) (q : Q (.bl b) H) : rISI K [x, .ty n] H Q :=
  .inl ⟨x, .ty n, _, _, b, rfl, .ty n, tyx_d h, kit_ty hb, q⟩
theorem isi_d2 {n m : String} {p : Addr} {b : Bool} (h : Dp K H x d) (hp : H p = some (.tup [.ty n, .ty m])) {b1 b2 : Bool} (h1 : kitB (tyName d) n = some b1) (h2 : kitB (tyName d) m = some b2) (hb : b = (b1 || b2)) (q : Q (.bl b) H) : rISI K [x, .ref p] H Q := by
  refine .inr ⟨x, p, _, _, [.type n, .type m], b, rfl, hp, .cons (.ty n) (.cons (.ty m) .nil), tyx_d h, ?_, q⟩
  subst hb
  refine kitAny_cons (kit_ty h1) (fun e => ?_) (fun e => by rw [e]; rfl)
  rw [e, Bool.false_or]
  exact kitAny_cons (kit_ty h2) (fun e => by rw [e]; exact kitAny_nil) (fun e => e)
/-- the six answers of isinstance and is None -/
def kindsB (d : PyData) : List Bool := match d with
  | .none => [false, false, false, false, false, true]
  | .bool _ => [true, true, false, false, false, false]
  | .int _ => [false, true, false, false, false, false]
  | .str _ => [false, false, true, false, false, false]
  | .list _ => [false, false, false, false, true, false]
  | .tuple _ => [false, false, false, true, false, false]
  | .dict _ => []
/-- a list of booleans as data -/
theorem dp_bools {p : Addr} (bs : List Bool) (h : SqL K H p (bs.map V.bl)) : Dp K H (.ref p) (.list (bs.map PyData.bool)) := by
  refine .lst h ?_
  induction bs with
  | nil => exact .nil
  | cons b bs ih =>
    have ih' : DpAll K H (bs.map V.bl) (bs.map PyData.bool) := by
      clear ih h
      induction bs with
      | nil => exact .nil
      | cons c cs ih => exact .cons (.bl c) ih
    exact .cons (.bl b) ih'
theorem eqv_same {d : PyData} (h : SeqAt.shaped d = true) : PyData.eqv d d = true := by
  unfold SeqAt.shaped at h
  rw [Bool.and_eq_true] at h
  exact SeqAt.eqv_refl d h.1
theorem dpAll_get : ∀ {vs : List V} {ds : List PyData}, DpAll K H vs ds → ∀ {i : Nat} (hi : i < ds.length), ∃ v, vs[i]? = some v ∧ Dp K H v ds[i]
  | _, _, .nil, i, hi => absurd hi (Nat.not_lt_zero _)
  | _, _, .cons a b, 0, hi => ⟨_, rfl, a⟩
  | _, _, .cons a b, i + 1, hi => dpAll_get b (Nat.lt_of_succ_lt_succ hi)
theorem dpAll_len : ∀ {vs : List V} {ds : List PyData}, DpAll K H vs ds → vs.length = ds.length
  | _, _, .nil => rfl
  | _, _, .cons a b => by rw [List.length_cons, List.length_cons, dpAll_len b]
end
/-- a comprehension over range(a, b, c) -/
theorem lc_rangeC {lo c : Int} {n : Nat} {g : TG} {tt : TT} {te : TE} {vs : List Nat} {σ : L2.St} {H1 : Hp} {D : Addr} {Qd : Hp → Prop} (Pv : Nat → Hp → Prop) (h0 : Pv 0 (upd H1 D (.lst [])))
    (hs : ∀ i H, i < n → Pv i H → g (.int (lo + (i : Nat) * c)) (wipe σ vs) H fun σ2 H2 => wipe σ2 vs = wipe σ vs ∧ tt σ2 H2 fun b H3 =>
      if b = true then te σ2 H3 fun y H4 => ∃ acc, H4 D = some (.lst acc) ∧ acc.length < sizeLine ∧ Pv (i + 1) (upd H4 D (.lst (acc ++ [y]))) else Pv (i + 1) H3) (hd : ∀ H, Pv n H → Qd H) :
    ∃ W : Nat → Nat → Hp → Prop, (∃ m, W 0 m (upd H1 D (.lst []))) ∧ ∀ i m H, W i m H →
      ((Itc lo c n).stop i H ∧ Qd H) ∨ ((Itc lo c n).go i H ∧ ∃ Nx : Hp → Prop, (∀ H', Nx H' → ∃ m', m' < m ∧ W (i + 1) m' H') ∧ ∀ x H', (Itc lo c n).yld i H x H' → g x (wipe σ vs) H' fun σ2 H2 => wipe σ2 vs = wipe σ vs ∧ tt σ2 H2 fun b H3 =>
        if b = true then te σ2 H3 fun y H4 => ∃ acc, H4 D = some (.lst acc) ∧ acc.length < sizeLine ∧ Nx (upd H4 D (.lst (acc ++ [y]))) else Nx H3) := by
  refine ⟨fun i m H => m = n - i ∧ i ≤ n ∧ Pv i H, ⟨n, by simp, Nat.zero_le _, h0⟩, ?_⟩
  rintro i m H ⟨rfl, hi, p⟩
  by_cases hlt : i < n
  · refine .inr ⟨hlt, Pv (i + 1), fun H' p' => ⟨n - (i + 1), by omega, rfl, hlt, p'⟩, fun x H' y => ?_⟩
    obtain ⟨rfl, rfl⟩ := y
    exact hs i _ hlt p
  · have e : i = n := by omega
    subst e
    exact .inl ⟨Nat.le_refl _, hd H p⟩
theorem rsize_pos {m f : Nat} (h1 : 1 ≤ m) (hf : 1 ≤ f) : Builtin.Range.rangeSize 0 (m : Int) (f : Int) = (((m - 1) / f + 1 : Nat) : Int) := by
  unfold Builtin.Range.rangeSize
  rw [if_pos (by omega), if_pos (by omega), Int.sub_zero, show (m : Int) - 1 = ((m - 1 : Nat) : Int) by omega]
  rfl
theorem small_pos {m f : Nat} (h1 : 1 ≤ m) (h2 : m ≤ 1000000) (hf : 1 ≤ f) (hf2 : f ≤ 1000000) : Builtin.Range.small 0 (m : Int) (f : Int) = true := by
  unfold Builtin.Range.small
  rw [rsize_pos h1 hf]
  simp only [Builtin.Range.rangeFitsLong, Bool.and_eq_true, Bool.or_eq_true, decide_eq_true_eq, beq_iff_eq, show ((f : Int) > 0) by omega, if_true]
  have h3 := Nat.div_le_self (m - 1) f
  generalize (m - 1) / f = q at *
  omega
/-! one sign in figures -/
theorem lit_figs : ("0123456789" : Str) = S [48, 49, 50, 51, 52, 53, 54, 55, 56, 57] := rfl
theorem find_fig (c : Nat) : Txt.find (S [48, 49, 50, 51, 52, 53, 54, 55, 56, 57]) (S [c]) = if 48 ≤ c ∧ c ≤ 57 then ((c - 48 : Nat) : Int) else -1 := by
  by_cases h : 48 ≤ c ∧ c ≤ 57
  · rw [if_pos h]
    have h2 : ∀ k : _root_.Fin 10, Txt.find (S [48, 49, 50, 51, 52, 53, 54, 55, 56, 57]) (S [48 + k.val]) = (k.val : Int) := by decide +kernel
    have e := h2 ⟨c - 48, by omega⟩
    rw [show 48 + (c - 48) = c by omega] at e
    exact e
  · rw [if_neg h]
    have e := SX.in_one [48, 49, 50, 51, 52, 53, 54, 55, 56, 57] c
    have h3 : decide (c ∈ [48, 49, 50, 51, 52, 53, 54, 55, 56, 57]) = false := decide_eq_false fun hm => h (by
      simp only [List.mem_cons, List.not_mem_nil, or_false] at hm
      omega)
    rw [h3, Bool.not_eq_false'] at e
    unfold Txt.find
    rw [List.isEmpty_iff] at e
    show (match Builtin.Str.occurrences (SX.S _) (SX.S [c]) 0 (SX.S _).length 1 with | i :: _ => (i : Int) | [] => -1) = -1
    rw [e]
/-! figures of a number -/
def figs : Nat → Nat → List Nat
  | 0, _ => []
  | w + 1, n => figs w (n / 10) ++ [48 + n % 10]
theorem figs_len : ∀ w n, (figs w n).length = w
  | 0, _ => rfl
  | w + 1, n => by rw [figs, List.length_append, figs_len w]; rfl
theorem digitChar_nat {n : Nat} (h : n < 10) : n.digitChar.toNat = 48 + n := by
  have h2 : ∀ k : _root_.Fin 10, k.val.digitChar.toNat = 48 + k.val := by decide
  exact h2 ⟨n, h⟩
theorem toDigits_len10 {w n : Nat} (h : n < 10 ^ w) (hw : 0 < w) : (Nat.toDigits 10 n).length ≤ w := by
  have h1 := (Nat.length_repr_le_iff (n := n) (k := w) hw).mpr h
  rwa [← String.length_toList, Nat.toList_repr] at h1
def pad (w n : Nat) : List Nat := List.replicate (w - (Nat.toDigits 10 n).length) 48 ++ (Nat.toDigits 10 n).map Char.toNat
theorem zpad_S (w n : Nat) : zpad w (n : Int) = S (pad w n) := rfl
theorem figs_zero : ∀ w, figs w 0 = List.replicate w 48
  | 0 => rfl
  | w + 1 => by
    rw [figs, Nat.zero_div, Nat.zero_mod, figs_zero w, List.replicate_succ']
theorem pad_figs : ∀ (w n : Nat), n < 10 ^ w → 0 < w → pad w n = figs w n
  | 0, _, _, h => absurd h (Nat.lt_irrefl _)
  | w + 1, n, h, _ => by
    by_cases hn : n < 10
    · unfold pad
      rw [Nat.toDigits_of_lt_base hn]
      show List.replicate (w + 1 - 1) 48 ++ [n.digitChar.toNat] = figs (w + 1) n
      rw [figs, digitChar_nat hn, Nat.div_eq_of_lt hn, Nat.mod_eq_of_lt hn, figs_zero]
      rfl
    · have hw : 0 < w := by
        rcases Nat.eq_zero_or_pos w with e | e
        · subst e
          simp at h
          omega
        · exact e
      have h2 : n / 10 < 10 ^ w := by
        rw [Nat.div_lt_iff_lt_mul (by decide)]
        rwa [Nat.pow_succ] at h
      have ih := pad_figs w (n / 10) h2 hw
      have hl := toDigits_len10 h2 hw
      rw [figs, ← ih]
      unfold pad
      rw [Nat.toDigits_of_base_le (by decide) (by omega), List.length_append, List.map_append, ← List.append_assoc]
      show List.replicate (w + 1 - ((Nat.toDigits 10 (n / 10)).length + 1)) 48 ++ _ ++ [(n % 10).digitChar.toNat] = _
      rw [digitChar_nat (Nat.mod_lt _ (by decide)), show w + 1 - ((Nat.toDigits 10 (n / 10)).length + 1) = w - (Nat.toDigits 10 (n / 10)).length by omega]
theorem figs_isD : ∀ w n, isD (figs w n) = true
  | 0, _ => rfl
  | w + 1, n => by
    show List.all (figs (w + 1) n) _ = true
    rw [figs, List.all_append]
    have e : (figs w (n / 10)).all (fun c => decide (48 ≤ c) && decide (c ≤ 57)) = true := figs_isD w (n / 10)
    rw [e, Bool.true_and]
    have := Nat.mod_lt n (show 10 > 0 by decide)
    simp
    omega
theorem digitsVal_snoc (a : List Nat) (c : Nat) : NumText.digitsVal (a ++ [c]) = NumText.digitsVal a * 10 + (c - 48) := by
  unfold NumText.digitsVal
  rw [List.foldl_append]
  rfl
theorem digitsVal_figs : ∀ w n, n < 10 ^ w → NumText.digitsVal (figs w n) = n
  | 0, n, h => by
    have : n = 0 := by simpa using h
    subst this
    rfl
  | w + 1, n, h => by
    rw [figs, digitsVal_snoc, digitsVal_figs w (n / 10) (by rw [Nat.div_lt_iff_lt_mul (by decide)]; rwa [Nat.pow_succ] at h)]
    omega
theorem isD_isT {l : List Nat} (h : isD l = true) : isT l = true := isT_of fun c hc => by
  have z := List.all_eq_true.mp h c hc
  rw [Bool.and_eq_true, decide_eq_true_eq, decide_eq_true_eq] at z
  omega
end My

set_option Elab.async false
set_option linter.all false
set_option maxRecDepth 100000
set_option maxHeartbeats 4000000
namespace My
open PySem PySem.Spec PyProof.Rows L2
/-! ### the text -/
def topS (i : Nat) : Stmt := PySem.Challenge.pw_heldpasts_k02_pieces.main.body.getD i (.Pass ⟨0, 0, 0, 0⟩)
abbrev s_is_text : Stmt := topS 4
theorem sc_is_text : FnScope ["value"] ["value"] (defScope s_is_text) := ⟨rfl, rfl, rfl, by decide +kernel, rfl, by decide +kernel, by decide +kernel⟩
-- is_text: 0 value
abbrev s_number_at : Stmt := topS 5
theorem sc_number_at : FnScope ["text", "at", "size", "word"] ["text", "at", "size"] (defScope s_number_at) := ⟨rfl, rfl, rfl, by decide +kernel, rfl, by decide +kernel, by decide +kernel⟩
-- number_at: 0 text, 1 at, 2 size, 3 word
abbrev s_check_record : Stmt := topS 7
theorem sc_check_record : FnScope ["record"] ["record"] (defScope s_check_record) := ⟨rfl, rfl, rfl, by decide +kernel, rfl, by decide +kernel, by decide +kernel⟩
-- check_record: 0 record
abbrev s_piece_text : Stmt := topS 10
theorem sc_piece_text : FnScope ["age", "number", "writer", "more", "part", "sign"] ["age", "number", "writer", "more", "part"] (defScope s_piece_text) := ⟨rfl, rfl, rfl, by decide +kernel, rfl, by decide +kernel, by decide +kernel⟩
-- piece_text: 0 age, 1 number, 2 writer, 3 more, 4 part, 5 sign
abbrev s_piece_told : Stmt := topS 11
theorem sc_piece_told : FnScope ["block", "age", "number", "writer"] ["block"] (defScope s_piece_told) := ⟨rfl, rfl, rfl, by decide +kernel, rfl, by decide +kernel, by decide +kernel⟩
-- piece_told: 0 block, 1 age, 2 number, 3 writer
abbrev s_pieces_of : Stmt := topS 12
theorem sc_pieces_of : FnScope ["record", "signs"] ["record", "signs"] (defScope s_pieces_of) := ⟨rfl, rfl, rfl, by decide +kernel, rfl, by decide +kernel, by decide +kernel⟩
-- pieces_of: 0 record, 1 signs
abbrev s_parts_of : Stmt := topS 13
theorem sc_parts_of : FnScope ["record", "signs", "full", "start"] ["record", "signs"] (defScope s_parts_of) := ⟨rfl, rfl, rfl, by decide +kernel, rfl, by decide +kernel, by decide +kernel⟩
-- parts_of: 0 record*, 1 signs, 2 full*, 3 start
abbrev s__law_spring : Stmt := topS 15
theorem sc__law_spring : FnScope ["_law_script", "_law_great", "_law_cell", "_law_mixed"] ["_law_script"] (defScope s__law_spring) := ⟨rfl, rfl, rfl, by decide +kernel, rfl, by decide +kernel, by decide +kernel⟩
-- _law_spring: 0 _law_script, 1 _law_great, 2 _law_cell, 3 _law_mixed
abbrev s__law_drop : Stmt := topS 16
theorem sc__law_drop : FnScope ["_law_spring_here", "_law_many", "_law_great", "_law_found"] ["_law_spring_here", "_law_many"] (defScope s__law_drop) := ⟨rfl, rfl, rfl, by decide +kernel, rfl, by decide +kernel, by decide +kernel⟩
-- _law_drop: 0 _law_spring_here, 1 _law_many, 2 _law_great, 3 _law_found
abbrev s__law_text : Stmt := topS 17
theorem sc__law_text : FnScope ["_law_spring_here", "_law_size", "_law_signs", "_law_word", "_law_k", "_law_text_here", "_law_at"] ["_law_spring_here", "_law_size"] (defScope s__law_text) := ⟨rfl, rfl, rfl, by decide +kernel, rfl, by decide +kernel, by decide +kernel⟩
-- _law_text: 0 _law_spring_here*, 1 _law_size, 2 _law_signs*, 3 _law_word, 4 _law_k, 5 _law_text_here, 6 _law_at
abbrev s__law_kinds : Stmt := topS 18
theorem sc__law_kinds : FnScope ["_law_thing", "_law_found"] ["_law_thing"] (defScope s__law_kinds) := ⟨rfl, rfl, rfl, by decide +kernel, rfl, by decide +kernel, by decide +kernel⟩
-- _law_kinds: 0 _law_thing, 1 _law_found
abbrev s__law_alike : Stmt := topS 19
theorem sc__law_alike : FnScope ["_law_found", "_law_due", "_law_k"] ["_law_found", "_law_due"] (defScope s__law_alike) := ⟨rfl, rfl, rfl, by decide +kernel, rfl, by decide +kernel, by decide +kernel⟩
-- _law_alike: 0 _law_found*, 1 _law_due*, 2 _law_k
abbrev s__law_number : Stmt := topS 20
theorem sc__law_number : FnScope ["_law_spring_here"] ["_law_spring_here"] (defScope s__law_number) := ⟨rfl, rfl, rfl, by decide +kernel, rfl, by decide +kernel, by decide +kernel⟩
-- _law_number: 0 _law_spring_here
abbrev s__law_written : Stmt := topS 21
theorem sc__law_written : FnScope ["_law_age", "_law_number_here", "_law_writer", "_law_more", "_law_part", "_law_text_here", "_law_one", "_law_rest", "_law_turn"] ["_law_age", "_law_number_here", "_law_writer", "_law_more", "_law_part"] (defScope s__law_written) := ⟨rfl, rfl, rfl, by decide +kernel, rfl, by decide +kernel, by decide +kernel⟩
-- _law_written: 0 _law_age, 1 _law_number_here, 2 _law_writer, 3 _law_more, 4 _law_part, 5 _law_text_here, 6 _law_one, 7 _law_rest, 8 _law_turn
abbrev s__law_read : Stmt := topS 22
theorem sc__law_read : FnScope ["_law_block", "_law_numbers", "_law_k", "_law_digit"] ["_law_block"] (defScope s__law_read) := ⟨rfl, rfl, rfl, by decide +kernel, rfl, by decide +kernel, by decide +kernel⟩
-- _law_read: 0 _law_block, 1 _law_numbers, 2 _law_k, 3 _law_digit
abbrev s__law_spoilt : Stmt := topS 23
theorem sc__law_spoilt : FnScope ["_law_spring_here", "_law_block", "_law_at", "_law_signs", "_law_sign", "_law_ways"] ["_law_spring_here", "_law_block"] (defScope s__law_spoilt) := ⟨rfl, rfl, rfl, by decide +kernel, rfl, by decide +kernel, by decide +kernel⟩
-- _law_spoilt: 0 _law_spring_here, 1 _law_block, 2 _law_at, 3 _law_signs, 4 _law_sign, 5 _law_ways
abbrev s_law : Stmt := topS 24
theorem sc_law : FnScope ["_law_script", "_law_spring_here", "_law_turn", "_law_numbers", "_law_more", "_law_part", "_law_due", "_law_told", "_law_block", "_law_signs", "_law_many", "_law_size", "_law_record", "_law_parts", "_law_k"] ["_law_script"] (defScope s_law) := ⟨rfl, rfl, rfl, by decide +kernel, rfl, by decide +kernel, by decide +kernel⟩
-- law: 0 _law_script, 1 _law_spring_here*, 2 _law_turn, 3 _law_numbers, 4 _law_more, 5 _law_part, 6 _law_due, 7 _law_told, 8 _law_block, 9 _law_signs, 10 _law_many, 11 _law_size, 12 _law_record, 13 _law_parts, 14 _law_k
/-! ### the facts -/
def g_kb_piece_text_0 : List Value → List Value → List Value
  | [], [y0, y1, y2, y3, y4] => [y4, y3, y2, y1, y0]
  | _, _ => []
def gV_kb_piece_text_0 : List V → List V → List V
  | [], [y0, y1, y2, y3, y4] => [y4, y3, y2, y1, y0]
  | _, _ => []
def g_kb_piece_told_0 : List Value → List Value → List Value
  | [], [y0] => [y0]
  | _, _ => []
def gV_kb_piece_told_0 : List V → List V → List V
  | [], [y0] => [y0]
  | _, _ => []
def g_kb_pieces_of_0 : List Value → List Value → List Value
  | [], [y0, y1] => [y1, y0]
  | _, _ => []
def gV_kb_pieces_of_0 : List V → List V → List V
  | [], [y0, y1] => [y1, y0]
  | _, _ => []
structure Fx (K : PySem.W.Frag) (mg : Str → Option Value) where
  a_is_text : Addr
  fd_is_text : FuncData
  F_is_text : Fun K "is_text" "is_text" s_is_text a_is_text fd_is_text
  g_is_text : mg "is_text" = some (.ref a_is_text)
  b_is_text : Binds K fd_is_text ["value"] []
  a_number_at : Addr
  fd_number_at : FuncData
  F_number_at : Fun K "number_at" "number_at" s_number_at a_number_at fd_number_at
  g_number_at : mg "number_at" = some (.ref a_number_at)
  b_number_at : Binds K fd_number_at ["text", "at", "size"] []
  a_check_record : Addr
  fd_check_record : FuncData
  F_check_record : Fun K "check_record" "check_record" s_check_record a_check_record fd_check_record
  g_check_record : mg "check_record" = some (.ref a_check_record)
  b_check_record : Binds K fd_check_record ["record"] []
  a_piece_text : Addr
  fd_piece_text : FuncData
  F_piece_text : Fun K "piece_text" "piece_text" s_piece_text a_piece_text fd_piece_text
  g_piece_text : mg "piece_text" = some (.ref a_piece_text)
  b_piece_text : Binds K fd_piece_text ["age", "number", "writer", "more", "part"] []
  a_piece_told : Addr
  fd_piece_told : FuncData
  F_piece_told : Fun K "piece_told" "piece_told" s_piece_told a_piece_told fd_piece_told
  g_piece_told : mg "piece_told" = some (.ref a_piece_told)
  b_piece_told : Binds K fd_piece_told ["block"] []
  a_pieces_of : Addr
  fd_pieces_of : FuncData
  F_pieces_of : Fun K "pieces_of" "pieces_of" s_pieces_of a_pieces_of fd_pieces_of
  g_pieces_of : mg "pieces_of" = some (.ref a_pieces_of)
  b_pieces_of : Binds K fd_pieces_of ["record", "signs"] []
  a_parts_of : Addr
  fd_parts_of : FuncData
  F_parts_of : Fun K "parts_of" "parts_of" s_parts_of a_parts_of fd_parts_of
  g_parts_of : mg "parts_of" = some (.ref a_parts_of)
  b_parts_of : Binds K fd_parts_of ["record", "signs"] []
  a__law_spring : Addr
  fd__law_spring : FuncData
  F__law_spring : Fun K "_law_spring" "_law_spring" s__law_spring a__law_spring fd__law_spring
  g__law_spring : mg "_law_spring" = some (.ref a__law_spring)
  b__law_spring : Binds K fd__law_spring ["_law_script"] []
  a__law_drop : Addr
  fd__law_drop : FuncData
  F__law_drop : Fun K "_law_drop" "_law_drop" s__law_drop a__law_drop fd__law_drop
  g__law_drop : mg "_law_drop" = some (.ref a__law_drop)
  b__law_drop : Binds K fd__law_drop ["_law_spring_here", "_law_many"] []
  a__law_text : Addr
  fd__law_text : FuncData
  F__law_text : Fun K "_law_text" "_law_text" s__law_text a__law_text fd__law_text
  g__law_text : mg "_law_text" = some (.ref a__law_text)
  b__law_text : Binds K fd__law_text ["_law_spring_here", "_law_size"] []
  a__law_kinds : Addr
  fd__law_kinds : FuncData
  F__law_kinds : Fun K "_law_kinds" "_law_kinds" s__law_kinds a__law_kinds fd__law_kinds
  g__law_kinds : mg "_law_kinds" = some (.ref a__law_kinds)
  b__law_kinds : Binds K fd__law_kinds ["_law_thing"] []
  a__law_alike : Addr
  fd__law_alike : FuncData
  F__law_alike : Fun K "_law_alike" "_law_alike" s__law_alike a__law_alike fd__law_alike
  g__law_alike : mg "_law_alike" = some (.ref a__law_alike)
  b__law_alike : Binds K fd__law_alike ["_law_found", "_law_due"] []
  a__law_number : Addr
  fd__law_number : FuncData
  F__law_number : Fun K "_law_number" "_law_number" s__law_number a__law_number fd__law_number
  g__law_number : mg "_law_number" = some (.ref a__law_number)
  b__law_number : Binds K fd__law_number ["_law_spring_here"] []
  a__law_written : Addr
  fd__law_written : FuncData
  F__law_written : Fun K "_law_written" "_law_written" s__law_written a__law_written fd__law_written
  g__law_written : mg "_law_written" = some (.ref a__law_written)
  b__law_written : Binds K fd__law_written ["_law_age", "_law_number_here", "_law_writer", "_law_more", "_law_part"] []
  a__law_read : Addr
  fd__law_read : FuncData
  F__law_read : Fun K "_law_read" "_law_read" s__law_read a__law_read fd__law_read
  g__law_read : mg "_law_read" = some (.ref a__law_read)
  b__law_read : Binds K fd__law_read ["_law_block"] []
  a__law_spoilt : Addr
  fd__law_spoilt : FuncData
  F__law_spoilt : Fun K "_law_spoilt" "_law_spoilt" s__law_spoilt a__law_spoilt fd__law_spoilt
  g__law_spoilt : mg "_law_spoilt" = some (.ref a__law_spoilt)
  b__law_spoilt : Binds K fd__law_spoilt ["_law_spring_here", "_law_block"] []
  a_law : Addr
  fd_law : FuncData
  F_law : Fun K "law" "law" s_law a_law fd_law
  g_law : mg "law" = some (.ref a_law)
  b_law : Binds K fd_law ["_law_script"] []
  kb_piece_text_0 : KBinds K fd_piece_text ["age", "number", "writer", "more", "part"] ["part", "more", "writer", "number", "age"] g_kb_piece_text_0 gV_kb_piece_text_0
  kb_piece_told_0 : KBinds K fd_piece_told ["block"] ["block"] g_kb_piece_told_0 gV_kb_piece_told_0
  kb_pieces_of_0 : KBinds K fd_pieces_of ["record", "signs"] ["signs", "record"] g_kb_pieces_of_0 gV_kb_pieces_of_0
  m_all : mg "all" = none
  m_bool : mg "bool" = none
  m_int : mg "int" = none
  m_isinstance : mg "isinstance" = none
  m_len : mg "len" = none
  m_list : mg "list" = none
  m_max : mg "max" = none
  m_range : mg "range" = none
  m_str : mg "str" = none
  m_tuple : mg "tuple" = none
  m_type : mg "type" = none
  c_PIECE_HEAD : ∃ t, mg "PIECE_HEAD" = some (.int 19 t)

/-! ### the bodies -/
section
variable {P : Program} {w : World} {K : PySem.W.Frag} {mg : Str → Option Value} {base : Heap}
def t_is_text (K : PySem.W.Frag)  : TS :=
    (tRet (tAndV (tOp (rIS K) (tCB (rTyp K) (tCons (tVar 0) tNil)) (tC (.ty "str"))) (tAndV (tBM0 K "str" rM_isascii (tVar 0)) (tBM0 K "str" rM_isprintable (tVar 0)))))
theorem b_is_text (Y : Fx K mg)   {f : Addr} {cdv : Value} {A : Around} {outer : List Env} {s : Shared} {H : Hp} {E : XK} (hr : Room 0 (A.deeper (envOfC "is_text" (defScope s_is_text) s.heap.objs.size f cdv))) :
    PSs (cxOf CX0 P w K mg base ["value"] "is_text" (defScope s_is_text) f cdv A outer s H E).nox (defBody s_is_text) (t_is_text K ) :=
    (pss_one (ps_ret (pe_and (pe_cmpR op_IS (pe_callTy call_type1 (by rfl) Y.m_type (by decide +kernel) (pa_cons (pv 0) pa_nil)) (pe_bltn (v := .ty "str") (by rfl) Y.m_str (by decide +kernel) rfl) (nomark _)) (pe_and (pe_bm0 PySem.F.plainAttrs_str PySem.F.slot_str_isascii PySem.F.type_str_isascii mt_isascii (pv 0)) (pe_one (pe_bm0 PySem.F.plainAttrs_str PySem.F.slot_str_isprintable PySem.F.type_str_isprintable mt_isprintable (pv 0)))))))
def t_number_at (K : PySem.W.Frag)  : TS :=
    (tSeq (tAsg (tSl (rSL K) (tVar 0) (tPart (tVar 1)) (tPart (tOp (rADD K) (tVar 1) (tVar 2)))) (gName 3))
    (tSeq (tIfS (tAnd (tTest (tOp (rEQ K) (tCB (rLEN K) (tCons (tVar 3) tNil)) (tVar 2))) (tTru1 K (tBM0 K "str" rM_isdigit (tVar 3)))) (tRet (tCB rINT (tCons (tVar 3) tNil))) tNext)
    (tRet (tC .non))))
theorem b_number_at (Y : Fx K mg)   {f : Addr} {cdv : Value} {A : Around} {outer : List Env} {s : Shared} {H : Hp} {E : XK} (hr : Room 0 (A.deeper (envOfC "number_at" (defScope s_number_at) s.heap.objs.size f cdv))) :
    PSs (cxOf CX0 P w K mg base ["text", "at", "size", "word"] "number_at" (defScope s_number_at) f cdv A outer s H E).nox (defBody s_number_at) (t_number_at K ) :=
    (pss_cons (ps_set (i := 3) sc_number_at.nd rfl (Or.inl rfl) (pe_slice sl_SEQ (pv 0) (po_some (pv 1)) (po_some (pe_op op_ADD (pv 1) (pv 2)))))
    (pss_cons (ps_if (PW.pt (pw_and (pt_cmpR (op_EQ (hu_64 hr)) (pe_callB call_LEN (by rfl) Y.m_len (by decide +kernel) (pa_cons (pv 3) pa_nil)) (pv 2) (nomark _)) (pw_and1 (pt_tru (pe_bm0 PySem.F.plainAttrs_str PySem.F.slot_str_isdigit PySem.F.type_str_isdigit mt_isdigit (pv 3)) (by intro _; rfl))))) (pss_one (ps_ret (pe_callTy call_INT (by rfl) Y.m_int (by decide +kernel) (pa_cons (pv 3) pa_nil)))) pss_nil)
    (pss_one (ps_ret pe_non))))
def t_check_record (K : PySem.W.Frag) (sp_is_text : PySem.W.Frag → Sp) : TS :=
    (tIfS (tNot (tTru1 K (tCall (sp_is_text K) [] E0 (tCons (tVar 0) tNil)))) tNever tNext)
theorem b_check_record (Y : Fx K mg) {sp_is_text : PySem.W.Frag → Sp} (G_is_text : FnOk P w K mg base CX0 1 Y.a_is_text Y.fd_is_text ["value"] (sp_is_text K)) {f : Addr} {cdv : Value} {A : Around} {outer : List Env} {s : Shared} {H : Hp} {E : XK} (hr : Room 1 (A.deeper (envOfC "check_record" (defScope s_check_record) s.heap.objs.size f cdv))) :
    PSs (cxOf CX0 P w K mg base ["record"] "check_record" (defScope s_check_record) f cdv A outer s H E).nox (defBody s_check_record) (t_check_record K sp_is_text) :=
    (pss_one (ps_if (pt_not (pt_tru (pe_call G_is_text (hr.mono (by decide)) (by rfl) Y.g_is_text Y.F_is_text.kp Y.b_is_text .nil pass0 (pa_cons (pv 0) pa_nil)) (by intro _; rfl))) (pss_one ps_never) pss_nil))
def t_piece_text (K : PySem.W.Frag)  : TS :=
    (tSeq (tAsg (tIf (tTru1 K (tVar 3)) (tC (.str "+")) (tC (.str "."))) (gName 5))
    (tRet (fun σ H Q => tJs [(tFmt0 6 (tVar 0)), (tFmt0 6 (tVar 1)), (tFmt0 6 (tVar 2)), (tFmt (tVar 5)), (tFmt (tVar 4))] Str.empty σ H fun out H1 => Q (.str out) H1)))
theorem b_piece_text (Y : Fx K mg)   {f : Addr} {cdv : Value} {A : Around} {outer : List Env} {s : Shared} {H : Hp} {E : XK} (hr : Room 0 (A.deeper (envOfC "piece_text" (defScope s_piece_text) s.heap.objs.size f cdv))) :
    PSs (cxOf CX0 P w K mg base ["age", "number", "writer", "more", "part", "sign"] "piece_text" (defScope s_piece_text) f cdv A outer s H E).nox (defBody s_piece_text) (t_piece_text K ) :=
    (pss_cons (ps_set (i := 5) sc_piece_text.nd rfl (Or.inl rfl) (pe_ifExp (pt_tru (pv 3) (by intro _; rfl)) pe_str pe_str))
    (pss_one (ps_ret (pe_joined (PJ.cons (pe_fmt0 6 (pv 0)) (PJ.cons (pe_fmt0 6 (pv 1)) (PJ.cons (pe_fmt0 6 (pv 2)) (PJ.cons (pe_fmt (pv 5)) (PJ.cons (pe_fmt (pv 4)) PJ.nil)))))))))
def t_piece_told (K : PySem.W.Frag) (sp_is_text : PySem.W.Frag → Sp) (sp_number_at : PySem.W.Frag → Sp) : TS :=
    (tSeq (tIfS (tOr (tNot (tTru1 K (tCall (sp_is_text K) [] E0 (tCons (tVar 0) tNil)))) (tOr (tTest (tOp rLT (tCB (rLEN K) (tCons (tVar 0) tNil)) (tC (.int 19)))) (tTest (tOp (rNINU K) (tOp (rIX K) (tVar 0) (tC (.int 18))) (tC (.str "+.")))))) (tRet (tC .non)) tNext)
    (tSeq (tPar3 1 2 3 (tCons (tCall (sp_number_at K) [] E0 (tCons (tVar 0) (tCons (tC (.int 0)) (tCons (tC (.int 6)) tNil)))) (tCons (tCall (sp_number_at K) [] E0 (tCons (tVar 0) (tCons (tC (.int 6)) (tCons (tC (.int 6)) tNil)))) (tCons (tCall (sp_number_at K) [] E0 (tCons (tVar 0) (tCons (tC (.int 12)) (tCons (tC (.int 6)) tNil)))) tNil))))
    (tSeq (tIfS (tOr (tTest (tOp (rIS K) (tVar 1) (tC .non))) (tOr (tTest (tOp (rIS K) (tVar 2) (tC .non))) (tTest (tOp (rIS K) (tVar 3) (tC .non))))) (tRet (tC .non)) tNext)
    (tRet (tTup (tCons (tVar 1) (tCons (tVar 2) (tCons (tVar 3) (tCons (tOp (rEQ K) (tOp (rIX K) (tVar 0) (tC (.int 18))) (tC (.str "+"))) (tCons (tSl (rSL K) (tVar 0) (tPart (tC (.int 19))) tNoPart) tNil))))))))))
theorem b_piece_told (Y : Fx K mg) {sp_is_text : PySem.W.Frag → Sp} {sp_number_at : PySem.W.Frag → Sp} (G_is_text : FnOk P w K mg base CX0 1 Y.a_is_text Y.fd_is_text ["value"] (sp_is_text K)) (G_number_at : FnOk P w K mg base CX0 1 Y.a_number_at Y.fd_number_at ["text", "at", "size"] (sp_number_at K)) {f : Addr} {cdv : Value} {A : Around} {outer : List Env} {s : Shared} {H : Hp} {E : XK} (hr : Room 1 (A.deeper (envOfC "piece_told" (defScope s_piece_told) s.heap.objs.size f cdv))) :
    PSs (cxOf CX0 P w K mg base ["block", "age", "number", "writer"] "piece_told" (defScope s_piece_told) f cdv A outer s H E).nox (defBody s_piece_told) (t_piece_told K sp_is_text sp_number_at) :=
    (pss_cons (ps_if (PW.pt (pw_or (pt_not (pt_tru (pe_call G_is_text (hr.mono (by decide)) (by rfl) Y.g_is_text Y.F_is_text.kp Y.b_is_text .nil pass0 (pa_cons (pv 0) pa_nil)) (by intro _; rfl))) (pw_or (pt_cmpR op_LT (pe_callB call_LEN (by rfl) Y.m_len (by decide +kernel) (pa_cons (pv 0) pa_nil)) (pe_cI (by rfl) Y.c_PIECE_HEAD) (nomark _)) (pw_or1 (pt_cmpR op_NIN (pe_ix ix_SEQ (pv 0) pe_int (fun _ _ => rfl)) pe_str (by with_unfolding_all rfl)))))) (pss_one (ps_ret pe_non)) pss_nil)
    (pss_cons (ps_par3 (i := 1) (j := 2) (l := 3) (by rfl) sc_piece_told.nd rfl rfl rfl (by decide) (by decide) (by decide) rfl rfl rfl (pa_cons (pe_call G_number_at (hr.mono (by decide)) (by rfl) Y.g_number_at Y.F_number_at.kp Y.b_number_at .nil pass0 (pa_cons (pv 0) (pa_cons pe_int (pa_cons pe_int pa_nil)))) (pa_cons (pe_call G_number_at (hr.mono (by decide)) (by rfl) Y.g_number_at Y.F_number_at.kp Y.b_number_at .nil pass0 (pa_cons (pv 0) (pa_cons pe_int (pa_cons pe_int pa_nil)))) (pa_cons (pe_call G_number_at (hr.mono (by decide)) (by rfl) Y.g_number_at Y.F_number_at.kp Y.b_number_at .nil pass0 (pa_cons (pv 0) (pa_cons pe_int (pa_cons pe_int pa_nil)))) pa_nil))) (by rfl))
    (pss_cons (ps_if (PW.pt (pw_or (pt_cmpR op_IS (pv 1) pe_non (nomark _)) (pw_or (pt_cmpR op_IS (pv 2) pe_non (nomark _)) (pw_or1 (pt_cmpR op_IS (pv 3) pe_non (nomark _)))))) (pss_one (ps_ret pe_non)) pss_nil)
    (pss_one (ps_ret (pe_tup (pa_cons (pv 1) (pa_cons (pv 2) (pa_cons (pv 3) (pa_cons (pe_cmpR (op_EQ (hu_64 hr)) (pe_ix ix_SEQ (pv 0) pe_int (fun _ _ => rfl)) pe_str (nomark _)) (pa_cons (pe_slice sl_SEQ (pv 0) (po_some (pe_cI (by rfl) Y.c_PIECE_HEAD)) po_none) pa_nil)))))))))))
def t_pieces_of (K : PySem.W.Frag) (sp_check_record : PySem.W.Frag → Sp) (sp_parts_of : PySem.W.Frag → Sp) : TS :=
    (tSeq (tDrop (tCall (sp_check_record K) [] E0 (tCons (tVar 0) tNil)))
    (tRet (tCB (rLEN K) (tCons (tCall (sp_parts_of K) [] E0 (tCons (tVar 0) (tCons (tVar 1) tNil))) tNil))))
theorem b_pieces_of (Y : Fx K mg) {sp_check_record : PySem.W.Frag → Sp} {sp_parts_of : PySem.W.Frag → Sp} (G_check_record : FnOk P w K mg base CX0 2 Y.a_check_record Y.fd_check_record ["record"] (sp_check_record K)) (G_parts_of : FnOk P w K mg base CX0 1 Y.a_parts_of Y.fd_parts_of ["record", "signs"] (sp_parts_of K)) {f : Addr} {cdv : Value} {A : Around} {outer : List Env} {s : Shared} {H : Hp} {E : XK} (hr : Room 2 (A.deeper (envOfC "pieces_of" (defScope s_pieces_of) s.heap.objs.size f cdv))) :
    PSs (cxOf CX0 P w K mg base ["record", "signs"] "pieces_of" (defScope s_pieces_of) f cdv A outer s H E).nox (defBody s_pieces_of) (t_pieces_of K sp_check_record sp_parts_of) :=
    (pss_cons (ps_expr (pe_call G_check_record (hr.mono (by decide)) (by rfl) Y.g_check_record Y.F_check_record.kp Y.b_check_record .nil pass0 (pa_cons (pv 0) pa_nil)))
    (pss_one (ps_ret (pe_callB call_LEN (by rfl) Y.m_len (by decide +kernel) (pa_cons (pe_call G_parts_of (hr.mono (by decide)) (by rfl) Y.g_parts_of Y.F_parts_of.kp Y.b_parts_of .nil pass0 (pa_cons (pv 0) (pa_cons (pv 1) pa_nil))) pa_nil)))))
def t_parts_of (K : PySem.W.Frag)  : TS :=
    (tSeq (tAsg (tOp rSUB (tVar 1) (tC (.int 19))) (gName 2))
    (tRet (tLc (iRng3 (tCons (tC (.int 0)) (tCons (tCB rMAX2 (tCons (tCB (rLEN K) (tCons (tVar 0) tNil)) (tCons (tC (.int 1)) tNil))) (tCons (tVar 2) tNil)))) (gName 3) tYes (tSl (rSL K) (tVar 0) (tPart (tVar 3)) (tPart (tOp (rADD K) (tVar 3) (tVar 2)))) [3])))
theorem b_parts_of (Y : Fx K mg)   {f : Addr} {cdv : Value} {A : Around} {outer : List Env} {s : Shared} {H : Hp} {E : XK} (hr : Room 0 (A.deeper (envOfC "parts_of" (defScope s_parts_of) s.heap.objs.size f cdv))) :
    PSs (cxOf CX0 P w K mg base ["record", "signs", "full", "start"] "parts_of" (defScope s_parts_of) f cdv A outer s H E).nox (defBody s_parts_of) (t_parts_of K ) :=
    (pss_cons (ps_set (i := 2) sc_parts_of.nd rfl (Or.inr rfl) (pe_op op_SUB (pv 1) (pe_cI (by rfl) Y.c_PIECE_HEAD)))
    (pss_one (ps_ret (pe_lc (own := [("start", 3)]) (by rfl) sc_parts_of.nd (pi_range3 (by rfl) Y.m_range (pa_cons pe_int (pa_cons (pe_callB (call_MAX2 rfl) (by rfl) Y.m_max (by decide +kernel) (pa_cons (pe_callB call_LEN (by rfl) Y.m_len (by decide +kernel) (pa_cons (pv 0) pa_nil)) (pa_cons pe_int pa_nil))) (pa_cons (pv 2) pa_nil)))) (blkOk_by (own := [("start", 3)]) (N := ["record", "signs", "full", "start"]) (sc := defScope s_parts_of) (by decide +kernel)) (fun _ _ _ _ _ => (pg_name (i := 3) sc_parts_of.nd rfl (Or.inl rfl))) (fun _ _ _ _ _ => pts_nil) (fun _ _ _ _ _ => (pe_slice sl_SEQ (pv 0) (po_some (pv 3)) (po_some (pe_op op_ADD (pv 3) (pv 2)))))))))
def t__law_spring (K : PySem.W.Frag)  : TS :=
    (tSeq (tAsg (tLc (iList K (tVar 0)) (gName 2) (tTest (tOp rGE (tVar 2) (tOp rPOW (tC (.int 10)) (tC (.int 18))))) (tOp rSUB (tVar 2) (tOp rPOW (tC (.int 10)) (tC (.int 18)))) [2]) (gName 1))
    (tSeq (tAsg (tOp (rADD K) (tC (.int 15485863)) (tOp (rMUL K) (tC (.int 2)) (tCB (rLEN K) (tCons (tVar 0) tNil)))) (gName 3))
    (tSeq (tFor (iList K (tVar 0)) (gName 2) (tAsg (tOp rMOD (tCB rINT (tCons (tOp (rADD K) (tOp (rADD K) (tOp (rMUL K) (tVar 3) (tC (.int 982451653))) (tOp (rMUL K) (tVar 2) (tC (.int 49979687)))) (tC (.int 32452843))) tNil)) (tC (.int 2305843009213693951))) (gName 3)))
    (tRet (tLst (tCons (tVar 1) (tCons (tVar 3) (tCons (tC (.int 0)) tNil))))))))
theorem b__law_spring (Y : Fx K mg)   {f : Addr} {cdv : Value} {A : Around} {outer : List Env} {s : Shared} {H : Hp} {E : XK} (hr : Room 0 (A.deeper (envOfC "_law_spring" (defScope s__law_spring) s.heap.objs.size f cdv))) :
    PSs (cxOf CX0 P w K mg base ["_law_script", "_law_great", "_law_cell", "_law_mixed"] "_law_spring" (defScope s__law_spring) f cdv A outer s H E).nox (defBody s__law_spring) (t__law_spring K ) :=
    (pss_cons (ps_setLc (i := 1) (own := [("_law_cell", 2)]) (by rfl) sc__law_spring.nd rfl rfl (sw_true rfl rfl rfl (by decide +kernel)) (pi_list (pv 0)) (blkOk_by (own := [("_law_cell", 2)]) (N := ["_law_script", "_law_great", "_law_cell", "_law_mixed"]) (sc := defScope s__law_spring) (by decide +kernel)) (fun _ _ _ _ _ => (pg_name (i := 2) sc__law_spring.nd rfl (Or.inl rfl))) (fun _ _ _ _ _ => (pts_one (pt_cmpR op_GE (pv 2) (pe_op op_POW pe_int pe_int) (nomark _)))) (fun _ _ _ _ _ => (pe_op op_SUB (pv 2) (pe_op op_POW pe_int pe_int))))
    (pss_cons (ps_set (i := 3) sc__law_spring.nd rfl (Or.inl rfl) (pe_op op_ADD pe_int (pe_op op_MUL pe_int (pe_callB call_LEN (by rfl) Y.m_len (by decide +kernel) (pa_cons (pv 0) pa_nil)))))
    (pss_cons (ps_for PassesOwn.never rfl (pi_list (pv 0)) (pg_name (i := 2) sc__law_spring.nd rfl (Or.inl rfl)) (pss_one (ps_set (i := 3) sc__law_spring.nd rfl (Or.inl rfl) (pe_op op_MOD (pe_callTy call_INT (by rfl) Y.m_int (by decide +kernel) (pa_cons (pe_op op_ADD (pe_op op_ADD (pe_op op_MUL (pv 3) pe_int) (pe_op op_MUL (pv 2) pe_int)) pe_int) pa_nil)) pe_int))))
    (pss_one (ps_ret (pe_lst (pa_cons (pv 1) (pa_cons (pv 3) (pa_cons pe_int pa_nil)))))))))
def t__law_drop (K : PySem.W.Frag)  : TS :=
    (tSeq (tAsg (tOp (rIX K) (tVar 0) (tC (.int 0))) (gName 2))
    (tSeq (tWhile (tAnd (tTest (tOp (rNE K) (tVar 2) (tLst tNil))) (tTest (tOp (rEQ K) (tOp (rIX K) (tVar 2) (tC (.int 0))) (tC (.int 0))))) (tDrop (tBM K "list" rPOP (tVar 2) (tCons (tC (.int 0)) tNil))))
    (tSeq (tIfS (tTest (tOp (rNE K) (tVar 2) (tLst tNil))) (tSeq (tAsg (tOp rMOD (tCB rINT (tCons (tOp (rIX K) (tVar 2) (tC (.int 0))) tNil)) (tVar 1)) (gName 3))
      (tSeq (tAsg (tOp rFDIV (tOp (rIX K) (tVar 2) (tC (.int 0))) (tVar 1)) (gSub (tVar 2) (tC (.int 0)) rSetL))
      (tRet (tVar 3)))) tNext)
    (tSeq (tAsg (tOp (rADD K) (tOp (rIX K) (tVar 0) (tC (.int 2))) (tC (.int 1))) (gSub (tVar 0) (tC (.int 2)) rSetL))
    (tSeq (tAsg (tOp rMOD (tCB rINT (tCons (tOp (rADD K) (tOp (rMUL K) (tOp (rIX K) (tVar 0) (tC (.int 1))) (tC (.int 6364136223846793005))) (tOp (rMUL K) (tOp (rIX K) (tVar 0) (tC (.int 2))) (tC (.int 1442695040888963407)))) tNil)) (tC (.int 2305843009213693951))) (gSub (tVar 0) (tC (.int 1)) rSetL))
    (tRet (tOp rMOD (tOp rFDIV (tOp rMOD (tCB rINT (tCons (tOp (rMUL K) (tOp (rIX K) (tVar 0) (tC (.int 1))) (tOp (rIX K) (tVar 0) (tC (.int 1)))) tNil)) (tC (.int 2305843009213693921))) (tC (.int 1048576))) (tVar 1))))))))
theorem b__law_drop (Y : Fx K mg)   {f : Addr} {cdv : Value} {A : Around} {outer : List Env} {s : Shared} {H : Hp} {E : XK} (hr : Room 0 (A.deeper (envOfC "_law_drop" (defScope s__law_drop) s.heap.objs.size f cdv))) :
    PSs (cxOf CX0 P w K mg base ["_law_spring_here", "_law_many", "_law_great", "_law_found"] "_law_drop" (defScope s__law_drop) f cdv A outer s H E).nox (defBody s__law_drop) (t__law_drop K ) :=
    (pss_cons (ps_set (i := 2) sc__law_drop.nd rfl (Or.inl rfl) (pe_ix ix_SEQ (pv 0) pe_int (fun _ _ => rfl)))
    (pss_cons (ps_while PassesOwn.never (PW.pt (pw_and (pt_cmpR (op_NE (hu_64 hr)) (pv 2) (pe_lst pa_nil) (nomark _)) (pw_and1 (pt_cmpR (op_EQ (hu_64 hr)) (pe_ix ix_SEQ (pv 2) pe_int (fun _ _ => rfl)) pe_int (nomark _))))) (pss_one (ps_expr (pe_bm PySem.F.plainAttrs_list PySem.F.slot_list_pop PySem.F.type_list_pop mt_POP (pv 2) (pa_cons pe_int pa_nil)))))
    (pss_cons (ps_if (pt_cmpR (op_NE (hu_64 hr)) (pv 2) (pe_lst pa_nil) (nomark _)) (pss_cons (ps_set (i := 3) sc__law_drop.nd rfl (Or.inl rfl) (pe_op op_MOD (pe_callTy call_INT (by rfl) Y.m_int (by decide +kernel) (pa_cons (pe_ix ix_SEQ (pv 2) pe_int (fun _ _ => rfl)) pa_nil)) (pv 1)))
      (pss_cons (ps_asg (pe_op op_FDIV (pe_ix ix_SEQ (pv 2) pe_int (fun _ _ => rfl)) (pv 1)) (pg_sub (pv 2) pe_int set_list))
      (pss_one (ps_ret (pv 3))))) pss_nil)
    (pss_cons (ps_asg (pe_op op_ADD (pe_ix ix_SEQ (pv 0) pe_int (fun _ _ => rfl)) pe_int) (pg_sub (pv 0) pe_int set_list))
    (pss_cons (ps_asg (pe_op op_MOD (pe_callTy call_INT (by rfl) Y.m_int (by decide +kernel) (pa_cons (pe_op op_ADD (pe_op op_MUL (pe_ix ix_SEQ (pv 0) pe_int (fun _ _ => rfl)) pe_int) (pe_op op_MUL (pe_ix ix_SEQ (pv 0) pe_int (fun _ _ => rfl)) pe_int)) pa_nil)) pe_int) (pg_sub (pv 0) pe_int set_list))
    (pss_one (ps_ret (pe_op op_MOD (pe_op op_FDIV (pe_op op_MOD (pe_callTy call_INT (by rfl) Y.m_int (by decide +kernel) (pa_cons (pe_op op_MUL (pe_ix ix_SEQ (pv 0) pe_int (fun _ _ => rfl)) (pe_ix ix_SEQ (pv 0) pe_int (fun _ _ => rfl))) pa_nil)) pe_int) pe_int) (pv 1)))))))))
def t__law_text (K : PySem.W.Frag) (sp__law_drop : PySem.W.Frag → Sp) : TS :=
    (tSeq (tAsg (tC (.str " !\"#$&'()*+,-./0123456789:;<=>?@ABCDEFGHIJKLMNOPQRSTUVWXYZ[\\]^_`abcdefghijklmnopqrstuvwxyz{|}~")) (gName 2))
    (Evl.tCut (tIfS (tTest (tOp (rEQ K) (tCall (sp__law_drop K) [] E0 (tCons (tVar 0) (tCons (tC (.int 4)) tNil))) (tC (.int 0)))) (tAsg (tC (.str "0123456789+.+.0 ")) (gName 2)) tNext)
    (tSeq (tAsg (tBM K "str" (rJoin K) (tC (.str "")) (tCons (tLc (iRng1 (tCons (tOp (rADD K) (tC (.int 1)) (tCall (sp__law_drop K) [] E0 (tCons (tVar 0) (tCons (tC (.int 4)) tNil)))) tNil)) (gName 4) tYes (tOp (rIX K) (tVar 2) (tCall (sp__law_drop K) [] E0 (tCons (tVar 0) (tCons (tCB (rLEN K) (tCons (tVar 2) tNil)) tNil)))) [4]) tNil)) (gName 3))
    (tSeq (tAsg (tSl (rSL K) (tOp (rMUL K) (tVar 3) (tVar 1)) tNoPart (tPart (tVar 1))) (gName 5))
    (tSeq (tAsg (tCall (sp__law_drop K) [] E0 (tCons (tVar 0) (tCons (tOp (rADD K) (tVar 1) (tC (.int 1))) tNil))) (gName 6))
    (tRet (tSl (rSL K) (tOp (rADD K) (tOp (rADD K) (tSl (rSL K) (tVar 5) tNoPart (tPart (tVar 6))) (tOp (rIX K) (tVar 2) (tCall (sp__law_drop K) [] E0 (tCons (tVar 0) (tCons (tCB (rLEN K) (tCons (tVar 2) tNil)) tNil))))) (tSl (rSL K) (tVar 5) (tPart (tOp (rADD K) (tVar 6) (tC (.int 1)))) tNoPart)) tNoPart (tPart (tVar 1)))))))))
theorem b__law_text (Y : Fx K mg) {sp__law_drop : PySem.W.Frag → Sp} (G__law_drop : FnOk P w K mg base CX0 1 Y.a__law_drop Y.fd__law_drop ["_law_spring_here", "_law_many"] (sp__law_drop K)) {f : Addr} {cdv : Value} {A : Around} {outer : List Env} {s : Shared} {H : Hp} {E : XK} (hr : Room 1 (A.deeper (envOfC "_law_text" (defScope s__law_text) s.heap.objs.size f cdv))) :
    PSs (cxOf CX0 P w K mg base ["_law_spring_here", "_law_size", "_law_signs", "_law_word", "_law_k", "_law_text_here", "_law_at"] "_law_text" (defScope s__law_text) f cdv A outer s H E).nox (defBody s__law_text) (t__law_text K sp__law_drop) :=
    (pss_cons (ps_set (i := 2) sc__law_text.nd rfl (Or.inr rfl) pe_str)
    (Evl.pss_cut (ps_if (pt_cmpR (op_EQ (hu_64 hr)) (pe_call G__law_drop (hr.mono (by decide)) (by rfl) Y.g__law_drop Y.F__law_drop.kp Y.b__law_drop .nil pass0 (pa_cons (pv 0) (pa_cons pe_int pa_nil))) pe_int (nomark _)) (pss_one (ps_set (i := 2) sc__law_text.nd rfl (Or.inr rfl) pe_str)) pss_nil)
    (pss_cons (ps_set (i := 3) sc__law_text.nd rfl (Or.inl rfl) (pe_bm PySem.F.plainAttrs_str PySem.F.slot_str_join PySem.F.type_str_join mt_join pe_str (pa_cons (pe_lc (own := [("_law_k", 4)]) (by rfl) sc__law_text.nd (pi_range1 (by rfl) Y.m_range (pa_cons (pe_op op_ADD pe_int (pe_call G__law_drop (hr.mono (by decide)) (by rfl) Y.g__law_drop Y.F__law_drop.kp Y.b__law_drop .nil pass0 (pa_cons (pv 0) (pa_cons pe_int pa_nil)))) pa_nil)) (blkOk_by (own := [("_law_k", 4)]) (N := ["_law_spring_here", "_law_size", "_law_signs", "_law_word", "_law_k", "_law_text_here", "_law_at"]) (sc := defScope s__law_text) (by decide +kernel)) (fun _ _ _ _ _ => (pg_name (i := 4) sc__law_text.nd rfl (Or.inl rfl))) (fun _ _ _ _ _ => pts_nil) (fun _ _ _ _ _ => (pe_ix ix_SEQ (pv 2) (pe_call G__law_drop (hr.mono (by decide)) (by rfl) Y.g__law_drop Y.F__law_drop.kp Y.b__law_drop .nil pass0 (pa_cons (pv 0) (pa_cons (pe_callB call_LEN (by rfl) Y.m_len (by decide +kernel) (pa_cons (pv 2) pa_nil)) pa_nil))) (fun _ _ => rfl)))) pa_nil)))
    (pss_cons (ps_set (i := 5) sc__law_text.nd rfl (Or.inl rfl) (pe_slice sl_SEQ (pe_op op_MUL (pv 3) (pv 1)) po_none (po_some (pv 1))))
    (pss_cons (ps_set (i := 6) sc__law_text.nd rfl (Or.inl rfl) (pe_call G__law_drop (hr.mono (by decide)) (by rfl) Y.g__law_drop Y.F__law_drop.kp Y.b__law_drop .nil pass0 (pa_cons (pv 0) (pa_cons (pe_op op_ADD (pv 1) pe_int) pa_nil))))
    (pss_one (ps_ret (pe_slice sl_SEQ (pe_op op_ADD (pe_op op_ADD (pe_slice sl_SEQ (pv 5) po_none (po_some (pv 6))) (pe_ix ix_SEQ (pv 2) (pe_call G__law_drop (hr.mono (by decide)) (by rfl) Y.g__law_drop Y.F__law_drop.kp Y.b__law_drop .nil pass0 (pa_cons (pv 0) (pa_cons (pe_callB call_LEN (by rfl) Y.m_len (by decide +kernel) (pa_cons (pv 2) pa_nil)) pa_nil))) (fun _ _ => rfl))) (pe_slice sl_SEQ (pv 5) (po_some (pe_op op_ADD (pv 6) pe_int)) po_none)) po_none (po_some (pv 1))))))))))
def t__law_kinds (K : PySem.W.Frag)  : TS :=
    (tSeq (tAsg (tLst (tCons (tCB (rISI K) (tCons (tVar 0) (tCons (tC (.ty "bool")) tNil))) (tCons (tCB (rISI K) (tCons (tVar 0) (tCons (tC (.ty "int")) tNil))) (tCons (tCB (rISI K) (tCons (tVar 0) (tCons (tC (.ty "str")) tNil))) tNil)))) (gName 1))
    (tRet (tOp (rADD K) (tVar 1) (tLst (tCons (tCB (rISI K) (tCons (tVar 0) (tCons (tC (.ty "tuple")) tNil))) (tCons (tCB (rISI K) (tCons (tVar 0) (tCons (tC (.ty "list")) tNil))) (tCons (tOp (rIS K) (tVar 0) (tC .non)) tNil)))))))
theorem b__law_kinds (Y : Fx K mg)   {f : Addr} {cdv : Value} {A : Around} {outer : List Env} {s : Shared} {H : Hp} {E : XK} (hr : Room 0 (A.deeper (envOfC "_law_kinds" (defScope s__law_kinds) s.heap.objs.size f cdv))) :
    PSs (cxOf CX0 P w K mg base ["_law_thing", "_law_found"] "_law_kinds" (defScope s__law_kinds) f cdv A outer s H E).nox (defBody s__law_kinds) (t__law_kinds K ) :=
    (pss_cons (ps_set (i := 1) sc__law_kinds.nd rfl (Or.inl rfl) (pe_lst (pa_cons (pe_callB call_ISI (by rfl) Y.m_isinstance (by decide +kernel) (pa_cons (pv 0) (pa_cons (pe_bltn (v := .ty "bool") (by rfl) Y.m_bool (by decide +kernel) rfl) pa_nil))) (pa_cons (pe_callB call_ISI (by rfl) Y.m_isinstance (by decide +kernel) (pa_cons (pv 0) (pa_cons (pe_bltn (v := .ty "int") (by rfl) Y.m_int (by decide +kernel) rfl) pa_nil))) (pa_cons (pe_callB call_ISI (by rfl) Y.m_isinstance (by decide +kernel) (pa_cons (pv 0) (pa_cons (pe_bltn (v := .ty "str") (by rfl) Y.m_str (by decide +kernel) rfl) pa_nil))) pa_nil)))))
    (pss_one (ps_ret (pe_op op_ADD (pv 1) (pe_lst (pa_cons (pe_callB call_ISI (by rfl) Y.m_isinstance (by decide +kernel) (pa_cons (pv 0) (pa_cons (pe_bltn (v := .ty "tuple") (by rfl) Y.m_tuple (by decide +kernel) rfl) pa_nil))) (pa_cons (pe_callB call_ISI (by rfl) Y.m_isinstance (by decide +kernel) (pa_cons (pv 0) (pa_cons (pe_bltn (v := .ty "list") (by rfl) Y.m_list (by decide +kernel) rfl) pa_nil))) (pa_cons (pe_cmpR op_IS (pv 0) pe_non (nomark _)) pa_nil))))))))
def t__law_alike (K : PySem.W.Frag) (sp__law_alike : PySem.W.Frag → Sp) (sp__law_kinds : PySem.W.Frag → Sp) : TS :=
    (tSeq (tIfS (tTest (tOp (rNE K) (tCall (sp__law_kinds K) [] E0 (tCons (tVar 0) tNil)) (tCall (sp__law_kinds K) [] E0 (tCons (tVar 1) tNil)))) (tRet (tC (.bl false))) tNext)
    (tSeq (tIfS (tTru1 K (tCB (rISI K) (tCons (tVar 1) (tCons (tTup (tCons (tC (.ty "tuple")) (tCons (tC (.ty "list")) tNil))) tNil)))) (tRet (tAndV (tOp (rEQ K) (tCB (rLEN K) (tCons (tVar 0) tNil)) (tCB (rLEN K) (tCons (tVar 1) tNil))) (tCB (rAll K) (tCons (tLc (iRng1 (tCons (tCB (rLEN K) (tCons (tVar 1) tNil)) tNil)) (gName 2) tYes (tCall (sp__law_alike K) [] E0 (tCons (tOp (rIX K) (tVar 0) (tVar 2)) (tCons (tOp (rIX K) (tVar 1) (tVar 2)) tNil))) [2]) tNil)))) tNext)
    (tRet (tOp (rEQ K) (tVar 0) (tVar 1)))))
theorem b__law_alike {n : Nat} (Y : Fx K mg) {sp__law_alike : PySem.W.Frag → Sp} {sp__law_kinds : PySem.W.Frag → Sp} (G__law_alike : FnOk P w K mg base CX0 n Y.a__law_alike Y.fd__law_alike ["_law_found", "_law_due"] (sp__law_alike K)) (G__law_kinds : FnOk P w K mg base CX0 1 Y.a__law_kinds Y.fd__law_kinds ["_law_thing"] (sp__law_kinds K)) {f : Addr} {cdv : Value} {A : Around} {outer : List Env} {s : Shared} {H : Hp} {E : XK} (hn : 1 ≤ n) (hr : Room n (A.deeper (envOfC "_law_alike" (defScope s__law_alike) s.heap.objs.size f cdv))) :
    PSs (cxOf CX0 P w K mg base ["_law_found", "_law_due", "_law_k"] "_law_alike" (defScope s__law_alike) f cdv A outer s H E).nox (defBody s__law_alike) (t__law_alike K sp__law_alike sp__law_kinds) :=
    (pss_cons (ps_if (pt_cmpR (op_NE (hu_64 hr)) (pe_call G__law_kinds (hr.mono (Nat.le_trans (by decide) hn)) (by rfl) Y.g__law_kinds Y.F__law_kinds.kp Y.b__law_kinds .nil pass0 (pa_cons (pv 0) pa_nil)) (pe_call G__law_kinds (hr.mono (Nat.le_trans (by decide) hn)) (by rfl) Y.g__law_kinds Y.F__law_kinds.kp Y.b__law_kinds .nil pass0 (pa_cons (pv 1) pa_nil)) (nomark _)) (pss_one (ps_ret pe_bl)) pss_nil)
    (pss_cons (ps_if (pt_tru (pe_callB call_ISI (by rfl) Y.m_isinstance (by decide +kernel) (pa_cons (pv 1) (pa_cons (pe_tup (pa_cons (pe_bltn (v := .ty "tuple") (by rfl) Y.m_tuple (by decide +kernel) rfl) (pa_cons (pe_bltn (v := .ty "list") (by rfl) Y.m_list (by decide +kernel) rfl) pa_nil))) pa_nil))) (by intro _; rfl)) (pss_one (ps_ret (pe_and (pe_cmpR (op_EQ (hu_64 hr)) (pe_callB call_LEN (by rfl) Y.m_len (by decide +kernel) (pa_cons (pv 0) pa_nil)) (pe_callB call_LEN (by rfl) Y.m_len (by decide +kernel) (pa_cons (pv 1) pa_nil)) (nomark _)) (pe_one (pe_callB (cr_all rfl) (by rfl) Y.m_all (by decide +kernel) (pa_cons (pe_lc (own := [("_law_k", 2)]) (by rfl) sc__law_alike.nd (pi_range1 (by rfl) Y.m_range (pa_cons (pe_callB call_LEN (by rfl) Y.m_len (by decide +kernel) (pa_cons (pv 1) pa_nil)) pa_nil)) (blkOk_by (own := [("_law_k", 2)]) (N := ["_law_found", "_law_due", "_law_k"]) (sc := defScope s__law_alike) (by decide +kernel)) (fun _ _ _ _ _ => (pg_name (i := 2) sc__law_alike.nd rfl (Or.inl rfl))) (fun _ _ _ _ _ => pts_nil) (fun _ _ _ _ _ => (pe_call G__law_alike hr (by rfl) Y.g__law_alike Y.F__law_alike.kp Y.b__law_alike .nil pass0 (pa_cons (pe_ix ix_SEQ (pv 0) (pv 2) (fun _ _ => rfl)) (pa_cons (pe_ix ix_SEQ (pv 1) (pv 2) (fun _ _ => rfl)) pa_nil))))) pa_nil)))))) pss_nil)
    (pss_one (ps_ret (pe_cmpR (op_EQ (hu_64 hr)) (pv 0) (pv 1) (nomark _))))))
def t__law_number (K : PySem.W.Frag) (sp__law_drop : PySem.W.Frag → Sp) : TS :=
    (tRet (tOp (rIX K) (tLst (tCons (tC (.int 0)) (tCons (tC (.int 9)) (tCons (tC (.int 10)) (tCons (tC (.int 99999)) (tCons (tC (.int 100000)) (tCons (tC (.int 999999)) (tCons (tCall (sp__law_drop K) [] E0 (tCons (tVar 0) (tCons (tC (.int 1000000)) tNil))) (tCons (tCall (sp__law_drop K) [] E0 (tCons (tVar 0) (tCons (tC (.int 100)) tNil))) tNil))))))))) (tCall (sp__law_drop K) [] E0 (tCons (tVar 0) (tCons (tC (.int 8)) tNil)))))
theorem b__law_number (Y : Fx K mg) {sp__law_drop : PySem.W.Frag → Sp} (G__law_drop : FnOk P w K mg base CX0 1 Y.a__law_drop Y.fd__law_drop ["_law_spring_here", "_law_many"] (sp__law_drop K)) {f : Addr} {cdv : Value} {A : Around} {outer : List Env} {s : Shared} {H : Hp} {E : XK} (hr : Room 1 (A.deeper (envOfC "_law_number" (defScope s__law_number) s.heap.objs.size f cdv))) :
    PSs (cxOf CX0 P w K mg base ["_law_spring_here"] "_law_number" (defScope s__law_number) f cdv A outer s H E).nox (defBody s__law_number) (t__law_number K sp__law_drop) :=
    (pss_one (ps_ret (pe_ix ix_SEQ (pe_lst (pa_cons pe_int (pa_cons pe_int (pa_cons pe_int (pa_cons pe_int (pa_cons pe_int (pa_cons pe_int (pa_cons (pe_call G__law_drop (hr.mono (by decide)) (by rfl) Y.g__law_drop Y.F__law_drop.kp Y.b__law_drop .nil pass0 (pa_cons (pv 0) (pa_cons pe_int pa_nil))) (pa_cons (pe_call G__law_drop (hr.mono (by decide)) (by rfl) Y.g__law_drop Y.F__law_drop.kp Y.b__law_drop .nil pass0 (pa_cons (pv 0) (pa_cons pe_int pa_nil))) pa_nil))))))))) (pe_call G__law_drop (hr.mono (by decide)) (by rfl) Y.g__law_drop Y.F__law_drop.kp Y.b__law_drop .nil pass0 (pa_cons (pv 0) (pa_cons pe_int pa_nil))) (fun _ _ => rfl))))
def t__law_written (K : PySem.W.Frag)  : TS :=
    (Evl.tCut (tAsg (tIf (tTru1 K (tVar 3)) (tC (.str "+")) (tC (.str "."))) (gName 5))
    (tSeq (tFor (iList K (tLst (tCons (tVar 2) (tCons (tVar 1) (tCons (tVar 0) tNil))))) (gName 6) (tSeq (tAsg (tVar 6) (gName 7))
      (tFor (iRng1 (tCons (tC (.int 6)) tNil)) (gName 8) (tSeq (tAsg (tOp (rADD K) (tOp (rIX K) (tC (.str "0123456789")) (tOp rMOD (tCB rINT (tCons (tVar 7) tNil)) (tC (.int 10)))) (tVar 5)) (gName 5))
        (tAsg (tOp rFDIV (tVar 7) (tC (.int 10))) (gName 7))))))
    (tRet (tOp (rADD K) (tVar 5) (tVar 4)))))
theorem b__law_written (Y : Fx K mg)   {f : Addr} {cdv : Value} {A : Around} {outer : List Env} {s : Shared} {H : Hp} {E : XK} (hr : Room 0 (A.deeper (envOfC "_law_written" (defScope s__law_written) s.heap.objs.size f cdv))) :
    PSs (cxOf CX0 P w K mg base ["_law_age", "_law_number_here", "_law_writer", "_law_more", "_law_part", "_law_text_here", "_law_one", "_law_rest", "_law_turn"] "_law_written" (defScope s__law_written) f cdv A outer s H E).nox (defBody s__law_written) (t__law_written K ) :=
    (Evl.pss_cut (ps_set (i := 5) sc__law_written.nd rfl (Or.inl rfl) (pe_ifExp (pt_tru (pv 3) (by intro _; rfl)) pe_str pe_str))
    (pss_cons (ps_for PassesOwn.never rfl (pi_list (pe_lst (pa_cons (pv 2) (pa_cons (pv 1) (pa_cons (pv 0) pa_nil))))) (pg_name (i := 6) sc__law_written.nd rfl (Or.inl rfl)) (pss_cons (ps_set (i := 7) sc__law_written.nd rfl (Or.inl rfl) (pv 6))
      (pss_one (ps_for PassesOwn.never rfl (pi_range1 (by rfl) Y.m_range (pa_cons pe_int pa_nil)) (pg_name (i := 8) sc__law_written.nd rfl (Or.inl rfl)) (pss_cons (ps_set (i := 5) sc__law_written.nd rfl (Or.inl rfl) (pe_op op_ADD (pe_ix ix_SEQ pe_str (pe_op op_MOD (pe_callTy call_INT (by rfl) Y.m_int (by decide +kernel) (pa_cons (pv 7) pa_nil)) pe_int) (fun _ _ => rfl)) (pv 5)))
        (pss_one (ps_set (i := 7) sc__law_written.nd rfl (Or.inl rfl) (pe_op op_FDIV (pv 7) pe_int))))))))
    (pss_one (ps_ret (pe_op op_ADD (pv 5) (pv 4))))))
def t__law_read (K : PySem.W.Frag)  : TS :=
    (tSeq (tIfS (tOr (tTest (tOp rLT (tCB (rLEN K) (tCons (tVar 0) tNil)) (tC (.int 19)))) (tTest (tOp (rNINU K) (tOp (rIX K) (tVar 0) (tC (.int 18))) (tC (.str "+."))))) (tRet (tC .non)) tNext)
    (tSeq (tAsg (tLst (tCons (tC (.int 0)) (tCons (tC (.int 0)) (tCons (tC (.int 0)) tNil)))) (gName 1))
    (tSeq (tFor (iRng1 (tCons (tC (.int 18)) tNil)) (gName 2) (tSeq (tAsg (tBM K "str" rM_find (tC (.str "0123456789")) (tCons (tOp (rIX K) (tVar 0) (tVar 2)) tNil)) (gName 3))
      (tSeq (tIfS (tTest (tOp rLT (tVar 3) (tC (.int 0)))) (tRet (tC .non)) tNext)
      (tAsg (tOp (rADD K) (tOp (rMUL K) (tOp (rIX K) (tVar 1) (tOp rFDIV (tVar 2) (tC (.int 6)))) (tC (.int 10))) (tVar 3)) (gSub (tVar 1) (tOp rFDIV (tVar 2) (tC (.int 6))) rSetL)))))
    (tRet (tTup (tCons (tOp (rIX K) (tVar 1) (tC (.int 0))) (tCons (tOp (rIX K) (tVar 1) (tC (.int 1))) (tCons (tOp (rIX K) (tVar 1) (tC (.int 2))) (tCons (tOp (rEQ K) (tOp (rIX K) (tVar 0) (tC (.int 18))) (tC (.str "+"))) (tCons (tSl (rSL K) (tVar 0) (tPart (tC (.int 19))) tNoPart) tNil))))))))))
theorem b__law_read (Y : Fx K mg)   {f : Addr} {cdv : Value} {A : Around} {outer : List Env} {s : Shared} {H : Hp} {E : XK} (hr : Room 0 (A.deeper (envOfC "_law_read" (defScope s__law_read) s.heap.objs.size f cdv))) :
    PSs (cxOf CX0 P w K mg base ["_law_block", "_law_numbers", "_law_k", "_law_digit"] "_law_read" (defScope s__law_read) f cdv A outer s H E).nox (defBody s__law_read) (t__law_read K ) :=
    (pss_cons (ps_if (PW.pt (pw_or (pt_cmpR op_LT (pe_callB call_LEN (by rfl) Y.m_len (by decide +kernel) (pa_cons (pv 0) pa_nil)) pe_int (nomark _)) (pw_or1 (pt_cmpR op_NIN (pe_ix ix_SEQ (pv 0) pe_int (fun _ _ => rfl)) pe_str (by with_unfolding_all rfl))))) (pss_one (ps_ret pe_non)) pss_nil)
    (pss_cons (ps_set (i := 1) sc__law_read.nd rfl (Or.inl rfl) (pe_lst (pa_cons pe_int (pa_cons pe_int (pa_cons pe_int pa_nil)))))
    (pss_cons (ps_for PassesOwn.never rfl (pi_range1 (by rfl) Y.m_range (pa_cons pe_int pa_nil)) (pg_name (i := 2) sc__law_read.nd rfl (Or.inl rfl)) (pss_cons (ps_set (i := 3) sc__law_read.nd rfl (Or.inl rfl) (pe_bm PySem.F.plainAttrs_str PySem.F.slot_str_find PySem.F.type_str_find mt_FIND pe_str (pa_cons (pe_ix ix_SEQ (pv 0) (pv 2) (fun _ _ => rfl)) pa_nil)))
      (pss_cons (ps_if (pt_cmpR op_LT (pv 3) pe_int (nomark _)) (pss_one (ps_ret pe_non)) pss_nil)
      (pss_one (ps_asg (pe_op op_ADD (pe_op op_MUL (pe_ix ix_SEQ (pv 1) (pe_op op_FDIV (pv 2) pe_int) (fun _ _ => rfl)) pe_int) (pv 3)) (pg_sub (pv 1) (pe_op op_FDIV (pv 2) pe_int) set_list))))))
    (pss_one (ps_ret (pe_tup (pa_cons (pe_ix ix_SEQ (pv 1) pe_int (fun _ _ => rfl)) (pa_cons (pe_ix ix_SEQ (pv 1) pe_int (fun _ _ => rfl)) (pa_cons (pe_ix ix_SEQ (pv 1) pe_int (fun _ _ => rfl)) (pa_cons (pe_cmpR (op_EQ (hu_64 hr)) (pe_ix ix_SEQ (pv 0) pe_int (fun _ _ => rfl)) pe_str (nomark _)) (pa_cons (pe_slice sl_SEQ (pv 0) (po_some pe_int) po_none) pa_nil)))))))))))
def t__law_spoilt (K : PySem.W.Frag) (sp__law_drop : PySem.W.Frag → Sp) : TS :=
    (tSeq (tAsg (tCall (sp__law_drop K) [] E0 (tCons (tVar 0) (tCons (tC (.int 20)) tNil))) (gName 2))
    (tSeq (tAsg (tC (.str " 0+.-_aeE/:9x")) (gName 3))
    (tSeq (tAsg (tOp (rIX K) (tVar 3) (tCall (sp__law_drop K) [] E0 (tCons (tVar 0) (tCons (tC (.int 13)) tNil)))) (gName 4))
    (tSeq (tAsg (tLst (tCons (tSl (rSL K) (tVar 1) tNoPart (tPart (tVar 2))) (tCons (tOp (rADD K) (tOp (rADD K) (tSl (rSL K) (tVar 1) tNoPart (tPart (tVar 2))) (tVar 4)) (tSl (rSL K) (tVar 1) (tPart (tVar 2)) tNoPart)) (tCons (tOp (rADD K) (tSl (rSL K) (tVar 1) tNoPart (tPart (tVar 2))) (tSl (rSL K) (tVar 1) (tPart (tOp (rADD K) (tVar 2) (tC (.int 1)))) tNoPart)) (tCons (tOp (rADD K) (tOp (rADD K) (tSl (rSL K) (tVar 1) tNoPart (tPart (tVar 2))) (tVar 4)) (tSl (rSL K) (tVar 1) (tPart (tOp (rADD K) (tVar 2) (tC (.int 1)))) tNoPart)) tNil))))) (gName 5))
    (tSeq (tAsg (tOp (rADD K) (tVar 5) (tLst (tCons (tSl (rSL K) (tVar 1) (tPart (tC (.int 6))) tNoPart) (tCons (tOp (rADD K) (tVar 1) (tVar 4)) (tCons (tOp (rADD K) (tC (.str " ")) (tVar 1)) (tCons (tOp (rADD K) (tOp (rADD K) (tSl (rSL K) (tVar 1) tNoPart (tPart (tC (.int 18)))) (tVar 4)) (tSl (rSL K) (tVar 1) (tPart (tC (.int 19))) tNoPart)) (tCons (tSl (rSL K) (tVar 1) tNoPart (tPart (tC (.int 19)))) (tCons (tSl (rSL K) (tVar 1) tNoPart (tPart (tC (.int 18)))) tNil)))))))) (gName 5))
    (tRet (tSl (rSL K) (tOp (rIX K) (tVar 5) (tCall (sp__law_drop K) [] E0 (tCons (tVar 0) (tCons (tC (.int 10)) tNil)))) tNoPart (tPart (tC (.int 1000))))))))))
theorem b__law_spoilt (Y : Fx K mg) {sp__law_drop : PySem.W.Frag → Sp} (G__law_drop : FnOk P w K mg base CX0 1 Y.a__law_drop Y.fd__law_drop ["_law_spring_here", "_law_many"] (sp__law_drop K)) {f : Addr} {cdv : Value} {A : Around} {outer : List Env} {s : Shared} {H : Hp} {E : XK} (hr : Room 1 (A.deeper (envOfC "_law_spoilt" (defScope s__law_spoilt) s.heap.objs.size f cdv))) :
    PSs (cxOf CX0 P w K mg base ["_law_spring_here", "_law_block", "_law_at", "_law_signs", "_law_sign", "_law_ways"] "_law_spoilt" (defScope s__law_spoilt) f cdv A outer s H E).nox (defBody s__law_spoilt) (t__law_spoilt K sp__law_drop) :=
    (pss_cons (ps_set (i := 2) sc__law_spoilt.nd rfl (Or.inl rfl) (pe_call G__law_drop (hr.mono (by decide)) (by rfl) Y.g__law_drop Y.F__law_drop.kp Y.b__law_drop .nil pass0 (pa_cons (pv 0) (pa_cons pe_int pa_nil))))
    (pss_cons (ps_set (i := 3) sc__law_spoilt.nd rfl (Or.inl rfl) pe_str)
    (pss_cons (ps_set (i := 4) sc__law_spoilt.nd rfl (Or.inl rfl) (pe_ix ix_SEQ (pv 3) (pe_call G__law_drop (hr.mono (by decide)) (by rfl) Y.g__law_drop Y.F__law_drop.kp Y.b__law_drop .nil pass0 (pa_cons (pv 0) (pa_cons pe_int pa_nil))) (fun _ _ => rfl)))
    (pss_cons (ps_set (i := 5) sc__law_spoilt.nd rfl (Or.inl rfl) (pe_lst (pa_cons (pe_slice sl_SEQ (pv 1) po_none (po_some (pv 2))) (pa_cons (pe_op op_ADD (pe_op op_ADD (pe_slice sl_SEQ (pv 1) po_none (po_some (pv 2))) (pv 4)) (pe_slice sl_SEQ (pv 1) (po_some (pv 2)) po_none)) (pa_cons (pe_op op_ADD (pe_slice sl_SEQ (pv 1) po_none (po_some (pv 2))) (pe_slice sl_SEQ (pv 1) (po_some (pe_op op_ADD (pv 2) pe_int)) po_none)) (pa_cons (pe_op op_ADD (pe_op op_ADD (pe_slice sl_SEQ (pv 1) po_none (po_some (pv 2))) (pv 4)) (pe_slice sl_SEQ (pv 1) (po_some (pe_op op_ADD (pv 2) pe_int)) po_none)) pa_nil))))))
    (pss_cons (ps_set (i := 5) sc__law_spoilt.nd rfl (Or.inl rfl) (pe_op op_ADD (pv 5) (pe_lst (pa_cons (pe_slice sl_SEQ (pv 1) (po_some pe_int) po_none) (pa_cons (pe_op op_ADD (pv 1) (pv 4)) (pa_cons (pe_op op_ADD pe_str (pv 1)) (pa_cons (pe_op op_ADD (pe_op op_ADD (pe_slice sl_SEQ (pv 1) po_none (po_some pe_int)) (pv 4)) (pe_slice sl_SEQ (pv 1) (po_some pe_int) po_none)) (pa_cons (pe_slice sl_SEQ (pv 1) po_none (po_some pe_int)) (pa_cons (pe_slice sl_SEQ (pv 1) po_none (po_some pe_int)) pa_nil)))))))))
    (pss_one (ps_ret (pe_slice sl_SEQ (pe_ix ix_SEQ (pv 5) (pe_call G__law_drop (hr.mono (by decide)) (by rfl) Y.g__law_drop Y.F__law_drop.kp Y.b__law_drop .nil pass0 (pa_cons (pv 0) (pa_cons pe_int pa_nil))) (fun _ _ => rfl)) po_none (po_some pe_int)))))))))
def t_law (K : PySem.W.Frag) (sp__law_alike : PySem.W.Frag → Sp) (sp__law_drop : PySem.W.Frag → Sp) (sp__law_number : PySem.W.Frag → Sp) (sp__law_read : PySem.W.Frag → Sp) (sp__law_spoilt : PySem.W.Frag → Sp) (sp__law_spring : PySem.W.Frag → Sp) (sp__law_text : PySem.W.Frag → Sp) (sp__law_written : PySem.W.Frag → Sp) (sp_piece_text : PySem.W.Frag → Sp) (sp_piece_told : PySem.W.Frag → Sp) (sp_pieces_of : PySem.W.Frag → Sp) : TS :=
    (tSeq (tAsg (tCall (sp__law_spring K) [] E0 (tCons (tVar 0) tNil)) (gName 1))
    (tSeq (tFor (iRng1 (tCons (tC (.int 4)) tNil)) (gName 2) (tSeq (tAsg (tLc (iRng1 (tCons (tC (.int 3)) tNil)) (gName 14) tYes (tCall (sp__law_number K) [] E0 (tCons (tVar 1) tNil)) [14]) (gName 3))
      (tSeq (tAsg (tOp (rEQ K) (tCall (sp__law_drop K) [] E0 (tCons (tVar 1) (tCons (tC (.int 2)) tNil))) (tC (.int 0))) (gName 4))
      (tSeq (tAsg (tCall (sp__law_text K) [] E0 (tCons (tVar 1) (tCons (tOp (rIX K) (tLst (tCons (tC (.int 0)) (tCons (tC (.int 1)) (tCons (tC (.int 81)) (tCons (tC (.int 981)) (tCons (tCall (sp__law_drop K) [] E0 (tCons (tVar 1) (tCons (tC (.int 982)) tNil))) tNil)))))) (tCall (sp__law_drop K) [] E0 (tCons (tVar 1) (tCons (tC (.int 5)) tNil)))) tNil))) (gName 5))
      (tSeq (tAsg (tCall (sp__law_written K) [] E0 (tCons (tOp (rIX K) (tVar 3) (tC (.int 0))) (tCons (tOp (rIX K) (tVar 3) (tC (.int 1))) (tCons (tOp (rIX K) (tVar 3) (tC (.int 2))) (tCons (tVar 4) (tCons (tVar 5) tNil)))))) (gName 6))
      (tSeq (tAsg (tLst (tCons (tCall (sp_piece_text K) [] E0 (tCons (tOp (rIX K) (tVar 3) (tC (.int 0))) (tCons (tOp (rIX K) (tVar 3) (tC (.int 1))) (tCons (tOp (rIX K) (tVar 3) (tC (.int 2))) (tCons (tVar 4) (tCons (tVar 5) tNil)))))) tNil)) (gName 7))
      (tSeq (tAsg (tOp (rADD K) (tVar 7) (tLst (tCons (tCallK0 (sp_piece_text K) gV_kb_piece_text_0 E0 (tCons (tVar 5) (tCons (tVar 4) (tCons (tOp (rIX K) (tVar 3) (tC (.int 2))) (tCons (tOp (rIX K) (tVar 3) (tC (.int 1))) (tCons (tOp (rIX K) (tVar 3) (tC (.int 0))) tNil)))))) tNil))) (gName 7))
      (tSeq (tIfS (tNot (tTru1 K (tCall (sp__law_alike K) [] E0 (tCons (tVar 7) (tCons (tLst (tCons (tVar 6) (tCons (tVar 6) tNil))) tNil))))) (tRet (tC (.bl false))) tNext)
      (tSeq (tIfS (tNot (tTru1 K (tCall (sp__law_alike K) [] E0 (tCons (tLst (tCons (tCall (sp_piece_told K) [] E0 (tCons (tVar 6) tNil)) (tCons (tCallK0 (sp_piece_told K) gV_kb_piece_told_0 E0 (tCons (tVar 6) tNil)) tNil))) (tCons (tOp (rMUL K) (tLst (tCons (tCB (rTUPLE K) (tCons (tOp (rADD K) (tVar 3) (tLst (tCons (tVar 4) (tCons (tVar 5) tNil)))) tNil)) tNil)) (tC (.int 2))) tNil))))) (tRet (tC (.bl false))) tNext)
      (tSeq (tFor (iList K (tLst (tCons (tCall (sp__law_spoilt K) [] E0 (tCons (tVar 1) (tCons (tVar 6) tNil))) (tCons (tCall (sp__law_spoilt K) [] E0 (tCons (tVar 1) (tCons (tVar 6) tNil))) (tCons (tC (.str "")) (tCons (tVar 5) (tCons (tCall (sp__law_text K) [] E0 (tCons (tVar 1) (tCons (tC (.int 25)) tNil))) tNil))))))) (gName 8) (tIfS (tNot (tTru1 K (tCall (sp__law_alike K) [] E0 (tCons (tCall (sp_piece_told K) [] E0 (tCons (tVar 8) tNil)) (tCons (tCall (sp__law_read K) [] E0 (tCons (tVar 8) tNil)) tNil))))) (tRet (tC (.bl false))) tNext))
      (tSeq (tAsg (tOp (rIX K) (tLst (tCons (tC (.int 100)) (tCons (tC (.int 101)) (tCons (tC (.int 1000)) (tCons (tOp (rADD K) (tC (.int 100)) (tCall (sp__law_drop K) [] E0 (tCons (tVar 1) (tCons (tC (.int 901)) tNil)))) tNil))))) (tCall (sp__law_drop K) [] E0 (tCons (tVar 1) (tCons (tC (.int 4)) tNil)))) (gName 9))
      (tSeq (tAsg (tCall (sp__law_drop K) [] E0 (tCons (tVar 1) (tCons (tC (.int 6)) tNil))) (gName 10))
      (tSeq (tAsg (tCB rMAX2 (tCons (tC (.int 0)) (tCons (tOp (rADD K) (tOp rSUB (tOp (rMUL K) (tVar 10) (tOp rSUB (tVar 9) (tC (.int 19)))) (tC (.int 1))) (tCall (sp__law_drop K) [] E0 (tCons (tVar 1) (tCons (tC (.int 3)) tNil)))) tNil))) (gName 11))
      (tSeq (tAsg (tCall (sp__law_text K) [] E0 (tCons (tVar 1) (tCons (tVar 11) tNil))) (gName 12))
      (tSeq (tAsg (tC (.int 1)) (gName 13))
      (tSeq (tWhile (tTest (tOp rLT (tOp (rMUL K) (tVar 13) (tOp rSUB (tVar 9) (tC (.int 19)))) (tVar 11))) (tAsg (tOp (rADD K) (tVar 13) (tC (.int 1))) (gName 13)))
      (tIfS (tNot (tTru1 K (tCall (sp__law_alike K) [] E0 (tCons (tLst (tCons (tCall (sp_pieces_of K) [] E0 (tCons (tVar 12) (tCons (tVar 9) tNil))) (tCons (tCallK0 (sp_pieces_of K) gV_kb_pieces_of_0 E0 (tCons (tVar 9) (tCons (tVar 12) tNil))) tNil))) (tCons (tLst (tCons (tVar 13) (tCons (tVar 13) tNil))) tNil))))) (tRet (tC (.bl false))) tNext)))))))))))))))))
    (tRet (tC (.bl true)))))
theorem b_law (Y : Fx K mg) {sp__law_alike : PySem.W.Frag → Sp} {sp__law_drop : PySem.W.Frag → Sp} {sp__law_number : PySem.W.Frag → Sp} {sp__law_read : PySem.W.Frag → Sp} {sp__law_spoilt : PySem.W.Frag → Sp} {sp__law_spring : PySem.W.Frag → Sp} {sp__law_text : PySem.W.Frag → Sp} {sp__law_written : PySem.W.Frag → Sp} {sp_piece_text : PySem.W.Frag → Sp} {sp_piece_told : PySem.W.Frag → Sp} {sp_pieces_of : PySem.W.Frag → Sp} (G__law_alike : FnOk P w K mg base CX0 4 Y.a__law_alike Y.fd__law_alike ["_law_found", "_law_due"] (sp__law_alike K)) (G__law_drop : FnOk P w K mg base CX0 1 Y.a__law_drop Y.fd__law_drop ["_law_spring_here", "_law_many"] (sp__law_drop K)) (G__law_number : FnOk P w K mg base CX0 2 Y.a__law_number Y.fd__law_number ["_law_spring_here"] (sp__law_number K)) (G__law_read : FnOk P w K mg base CX0 1 Y.a__law_read Y.fd__law_read ["_law_block"] (sp__law_read K)) (G__law_spoilt : FnOk P w K mg base CX0 2 Y.a__law_spoilt Y.fd__law_spoilt ["_law_spring_here", "_law_block"] (sp__law_spoilt K)) (G__law_spring : FnOk P w K mg base CX0 1 Y.a__law_spring Y.fd__law_spring ["_law_script"] (sp__law_spring K)) (G__law_text : FnOk P w K mg base CX0 2 Y.a__law_text Y.fd__law_text ["_law_spring_here", "_law_size"] (sp__law_text K)) (G__law_written : FnOk P w K mg base CX0 1 Y.a__law_written Y.fd__law_written ["_law_age", "_law_number_here", "_law_writer", "_law_more", "_law_part"] (sp__law_written K)) (G_piece_text : FnOk P w K mg base CX0 1 Y.a_piece_text Y.fd_piece_text ["age", "number", "writer", "more", "part"] (sp_piece_text K)) (G_piece_told : FnOk P w K mg base CX0 2 Y.a_piece_told Y.fd_piece_told ["block"] (sp_piece_told K)) (G_pieces_of : FnOk P w K mg base CX0 3 Y.a_pieces_of Y.fd_pieces_of ["record", "signs"] (sp_pieces_of K)) {f : Addr} {cdv : Value} {A : Around} {outer : List Env} {s : Shared} {H : Hp} {E : XK} (hr : Room 4 (A.deeper (envOfC "law" (defScope s_law) s.heap.objs.size f cdv))) :
    PSs (cxOf CX0 P w K mg base ["_law_script", "_law_spring_here", "_law_turn", "_law_numbers", "_law_more", "_law_part", "_law_due", "_law_told", "_law_block", "_law_signs", "_law_many", "_law_size", "_law_record", "_law_parts", "_law_k"] "law" (defScope s_law) f cdv A outer s H E).nox (defBody s_law) (t_law K sp__law_alike sp__law_drop sp__law_number sp__law_read sp__law_spoilt sp__law_spring sp__law_text sp__law_written sp_piece_text sp_piece_told sp_pieces_of) :=
    (pss_cons (ps_set (i := 1) sc_law.nd rfl (Or.inr rfl) (pe_call G__law_spring (hr.mono (by decide)) (by rfl) Y.g__law_spring Y.F__law_spring.kp Y.b__law_spring .nil pass0 (pa_cons (pv 0) pa_nil)))
    (pss_cons (ps_for PassesOwn.never rfl (pi_range1 (by rfl) Y.m_range (pa_cons pe_int pa_nil)) (pg_name (i := 2) sc_law.nd rfl (Or.inl rfl)) (pss_cons (ps_setLc (i := 3) (own := [("_law_k", 14)]) (by rfl) sc_law.nd rfl rfl (sw_true rfl rfl rfl (by decide +kernel)) (pi_range1 (by rfl) Y.m_range (pa_cons pe_int pa_nil)) (blkOk_by (own := [("_law_k", 14)]) (N := ["_law_script", "_law_spring_here", "_law_turn", "_law_numbers", "_law_more", "_law_part", "_law_due", "_law_told", "_law_block", "_law_signs", "_law_many", "_law_size", "_law_record", "_law_parts", "_law_k"]) (sc := defScope s_law) (by decide +kernel)) (fun _ _ _ _ _ => (pg_name (i := 14) sc_law.nd rfl (Or.inl rfl))) (fun _ _ _ _ _ => pts_nil) (fun _ _ _ _ _ => (pe_call G__law_number (hr.mono (by decide)) (by rfl) Y.g__law_number Y.F__law_number.kp Y.b__law_number .nil pass0 (pa_cons (pv 1) pa_nil))))
      (pss_cons (ps_set (i := 4) sc_law.nd rfl (Or.inl rfl) (pe_cmpR (op_EQ (hu_64 hr)) (pe_call G__law_drop (hr.mono (by decide)) (by rfl) Y.g__law_drop Y.F__law_drop.kp Y.b__law_drop .nil pass0 (pa_cons (pv 1) (pa_cons pe_int pa_nil))) pe_int (nomark _)))
      (pss_cons (ps_set (i := 5) sc_law.nd rfl (Or.inl rfl) (pe_call G__law_text (hr.mono (by decide)) (by rfl) Y.g__law_text Y.F__law_text.kp Y.b__law_text .nil pass0 (pa_cons (pv 1) (pa_cons (pe_ix ix_SEQ (pe_lst (pa_cons pe_int (pa_cons pe_int (pa_cons pe_int (pa_cons pe_int (pa_cons (pe_call G__law_drop (hr.mono (by decide)) (by rfl) Y.g__law_drop Y.F__law_drop.kp Y.b__law_drop .nil pass0 (pa_cons (pv 1) (pa_cons pe_int pa_nil))) pa_nil)))))) (pe_call G__law_drop (hr.mono (by decide)) (by rfl) Y.g__law_drop Y.F__law_drop.kp Y.b__law_drop .nil pass0 (pa_cons (pv 1) (pa_cons pe_int pa_nil))) (fun _ _ => rfl)) pa_nil))))
      (pss_cons (ps_set (i := 6) sc_law.nd rfl (Or.inl rfl) (pe_call G__law_written (hr.mono (by decide)) (by rfl) Y.g__law_written Y.F__law_written.kp Y.b__law_written .nil pass0 (pa_cons (pe_ix ix_SEQ (pv 3) pe_int (fun _ _ => rfl)) (pa_cons (pe_ix ix_SEQ (pv 3) pe_int (fun _ _ => rfl)) (pa_cons (pe_ix ix_SEQ (pv 3) pe_int (fun _ _ => rfl)) (pa_cons (pv 4) (pa_cons (pv 5) pa_nil)))))))
      (pss_cons (ps_set (i := 7) sc_law.nd rfl (Or.inl rfl) (pe_lst (pa_cons (pe_call G_piece_text (hr.mono (by decide)) (by rfl) Y.g_piece_text Y.F_piece_text.kp Y.b_piece_text .nil pass0 (pa_cons (pe_ix ix_SEQ (pv 3) pe_int (fun _ _ => rfl)) (pa_cons (pe_ix ix_SEQ (pv 3) pe_int (fun _ _ => rfl)) (pa_cons (pe_ix ix_SEQ (pv 3) pe_int (fun _ _ => rfl)) (pa_cons (pv 4) (pa_cons (pv 5) pa_nil)))))) pa_nil)))
      (pss_cons (ps_set (i := 7) sc_law.nd rfl (Or.inl rfl) (pe_op op_ADD (pv 7) (pe_lst (pa_cons (pe_callK0 G_piece_text (hr.mono (by decide)) (by rfl) Y.g_piece_text Y.F_piece_text.kp Y.kb_piece_text_0 pass0 (pk_cons (pv 5) (pk_cons (pv 4) (pk_cons (pe_ix ix_SEQ (pv 3) pe_int (fun _ _ => rfl)) (pk_cons (pe_ix ix_SEQ (pv 3) pe_int (fun _ _ => rfl)) (pk_cons (pe_ix ix_SEQ (pv 3) pe_int (fun _ _ => rfl)) pk_nil)))))) pa_nil))))
      (pss_cons (ps_if (pt_not (pt_tru (pe_call G__law_alike (hr.mono (by decide)) (by rfl) Y.g__law_alike Y.F__law_alike.kp Y.b__law_alike .nil pass0 (pa_cons (pv 7) (pa_cons (pe_lst (pa_cons (pv 6) (pa_cons (pv 6) pa_nil))) pa_nil))) (by intro _; rfl))) (pss_one (ps_ret pe_bl)) pss_nil)
      (pss_cons (ps_if (pt_not (pt_tru (pe_call G__law_alike (hr.mono (by decide)) (by rfl) Y.g__law_alike Y.F__law_alike.kp Y.b__law_alike .nil pass0 (pa_cons (pe_lst (pa_cons (pe_call G_piece_told (hr.mono (by decide)) (by rfl) Y.g_piece_told Y.F_piece_told.kp Y.b_piece_told .nil pass0 (pa_cons (pv 6) pa_nil)) (pa_cons (pe_callK0 G_piece_told (hr.mono (by decide)) (by rfl) Y.g_piece_told Y.F_piece_told.kp Y.kb_piece_told_0 pass0 (pk_cons (pv 6) pk_nil)) pa_nil))) (pa_cons (pe_op op_MUL (pe_lst (pa_cons (pe_callTy call_TUPLE (by rfl) Y.m_tuple (by decide +kernel) (pa_cons (pe_op op_ADD (pv 3) (pe_lst (pa_cons (pv 4) (pa_cons (pv 5) pa_nil)))) pa_nil)) pa_nil)) pe_int) pa_nil))) (by intro _; rfl))) (pss_one (ps_ret pe_bl)) pss_nil)
      (pss_cons (ps_for PassesOwn.never rfl (pi_list (pe_lst (pa_cons (pe_call G__law_spoilt (hr.mono (by decide)) (by rfl) Y.g__law_spoilt Y.F__law_spoilt.kp Y.b__law_spoilt .nil pass0 (pa_cons (pv 1) (pa_cons (pv 6) pa_nil))) (pa_cons (pe_call G__law_spoilt (hr.mono (by decide)) (by rfl) Y.g__law_spoilt Y.F__law_spoilt.kp Y.b__law_spoilt .nil pass0 (pa_cons (pv 1) (pa_cons (pv 6) pa_nil))) (pa_cons pe_str (pa_cons (pv 5) (pa_cons (pe_call G__law_text (hr.mono (by decide)) (by rfl) Y.g__law_text Y.F__law_text.kp Y.b__law_text .nil pass0 (pa_cons (pv 1) (pa_cons pe_int pa_nil))) pa_nil))))))) (pg_name (i := 8) sc_law.nd rfl (Or.inl rfl)) (pss_one (ps_if (pt_not (pt_tru (pe_call G__law_alike (hr.mono (by decide)) (by rfl) Y.g__law_alike Y.F__law_alike.kp Y.b__law_alike .nil pass0 (pa_cons (pe_call G_piece_told (hr.mono (by decide)) (by rfl) Y.g_piece_told Y.F_piece_told.kp Y.b_piece_told .nil pass0 (pa_cons (pv 8) pa_nil)) (pa_cons (pe_call G__law_read (hr.mono (by decide)) (by rfl) Y.g__law_read Y.F__law_read.kp Y.b__law_read .nil pass0 (pa_cons (pv 8) pa_nil)) pa_nil))) (by intro _; rfl))) (pss_one (ps_ret pe_bl)) pss_nil)))
      (pss_cons (ps_set (i := 9) sc_law.nd rfl (Or.inl rfl) (pe_ix ix_SEQ (pe_lst (pa_cons pe_int (pa_cons pe_int (pa_cons pe_int (pa_cons (pe_op op_ADD pe_int (pe_call G__law_drop (hr.mono (by decide)) (by rfl) Y.g__law_drop Y.F__law_drop.kp Y.b__law_drop .nil pass0 (pa_cons (pv 1) (pa_cons pe_int pa_nil)))) pa_nil))))) (pe_call G__law_drop (hr.mono (by decide)) (by rfl) Y.g__law_drop Y.F__law_drop.kp Y.b__law_drop .nil pass0 (pa_cons (pv 1) (pa_cons pe_int pa_nil))) (fun _ _ => rfl)))
      (pss_cons (ps_set (i := 10) sc_law.nd rfl (Or.inl rfl) (pe_call G__law_drop (hr.mono (by decide)) (by rfl) Y.g__law_drop Y.F__law_drop.kp Y.b__law_drop .nil pass0 (pa_cons (pv 1) (pa_cons pe_int pa_nil))))
      (pss_cons (ps_set (i := 11) sc_law.nd rfl (Or.inl rfl) (pe_callB (call_MAX2 rfl) (by rfl) Y.m_max (by decide +kernel) (pa_cons pe_int (pa_cons (pe_op op_ADD (pe_op op_SUB (pe_op op_MUL (pv 10) (pe_op op_SUB (pv 9) pe_int)) pe_int) (pe_call G__law_drop (hr.mono (by decide)) (by rfl) Y.g__law_drop Y.F__law_drop.kp Y.b__law_drop .nil pass0 (pa_cons (pv 1) (pa_cons pe_int pa_nil)))) pa_nil))))
      (pss_cons (ps_set (i := 12) sc_law.nd rfl (Or.inl rfl) (pe_call G__law_text (hr.mono (by decide)) (by rfl) Y.g__law_text Y.F__law_text.kp Y.b__law_text .nil pass0 (pa_cons (pv 1) (pa_cons (pv 11) pa_nil))))
      (pss_cons (ps_set (i := 13) sc_law.nd rfl (Or.inl rfl) pe_int)
      (pss_cons (ps_while PassesOwn.never (pt_cmpR op_LT (pe_op op_MUL (pv 13) (pe_op op_SUB (pv 9) pe_int)) (pv 11) (nomark _)) (pss_one (ps_set (i := 13) sc_law.nd rfl (Or.inl rfl) (pe_op op_ADD (pv 13) pe_int))))
      (pss_one (ps_if (pt_not (pt_tru (pe_call G__law_alike (hr.mono (by decide)) (by rfl) Y.g__law_alike Y.F__law_alike.kp Y.b__law_alike .nil pass0 (pa_cons (pe_lst (pa_cons (pe_call G_pieces_of (hr.mono (by decide)) (by rfl) Y.g_pieces_of Y.F_pieces_of.kp Y.b_pieces_of .nil pass0 (pa_cons (pv 12) (pa_cons (pv 9) pa_nil))) (pa_cons (pe_callK0 G_pieces_of (hr.mono (by decide)) (by rfl) Y.g_pieces_of Y.F_pieces_of.kp Y.kb_pieces_of_0 pass0 (pk_cons (pv 9) (pk_cons (pv 12) pk_nil))) pa_nil))) (pa_cons (pe_lst (pa_cons (pv 13) (pa_cons (pv 13) pa_nil))) pa_nil))) (by intro _; rfl))) (pss_one (ps_ret pe_bl)) pss_nil))))))))))))))))))
    (pss_one (ps_ret pe_bl))))
end
end My

set_option Elab.async false
set_option linter.all false
set_option maxRecDepth 100000
set_option maxHeartbeats 1000000
namespace My
open PySem PySem.Spec PyProof.Rows L2
local macro_rules | `(tactic| walk_at "side") => `(tactic| first | assumption | exact Nat.zero_le _ | decide | omega)
local macro_rules | `(tactic| walk_at "rd1") => `(tactic| first
  | with_reducible refine s_seq ?_
  | with_reducible refine x_gsub ?_
  | with_reducible refine s_asg ?_
  | ((with_reducible refine s_gn ?_); dsimp only [List.set])
  | ((with_reducible refine x_var (v := ?rdv) ?rdhv ?_); (case rdhv => rfl))
  | with_reducible refine x_c ?_
  | with_reducible refine x_op ?_
  | with_reducible refine x_cons ?_
  | with_reducible refine x_nil ?_
  | with_reducible refine x_cb ?_
  | with_reducible refine x_call ?_
  | with_reducible refine s_if ?_
  | with_reducible refine s_ret ?_
  | with_reducible refine s_retN ?_
  | with_reducible refine s_next ?_
  | with_reducible refine s_brk ?_
  | with_reducible refine s_cont ?_
  | with_reducible refine s_drop ?_
  | with_reducible refine s_par ?_
  | with_reducible refine s_par3 ?_
  | ((with_reducible refine s_p2 ?_); dsimp only [List.set])
  | ((with_reducible refine s_p3 ?_); dsimp only [List.set])
  | with_reducible refine f_r1 ?_
  | with_reducible refine f_r2 ?_
  | with_reducible refine f_l ?_
  | with_reducible refine f_t ?_
  | with_reducible refine f_s ?_
  | with_reducible refine c_r1 ?_
  | with_reducible refine c_r2 ?_
  | with_reducible refine c_l ?_
  | with_reducible refine c_t ?_
  | with_reducible refine c_s ?_
  | with_reducible refine x_tst ?_
  | with_reducible refine x_tru ?_
  | with_reducible refine x_truB ?_
  | with_reducible refine x_bl2 ?_
  | with_reducible refine x_int ?_
  | with_reducible refine x_str ?_
  | with_reducible refine x_not ?_
  | with_reducible refine x_and ?_
  | with_reducible refine x_or ?_
  | with_reducible refine x_andV ?_
  | with_reducible refine x_orV ?_
  | with_reducible refine x_notV ?_
  | with_reducible refine x_if ?_
  | with_reducible refine x_yes ?_
  | with_reducible refine x_un ?_
  | with_reducible refine x_tup ?_
  | with_reducible refine x_lst ?_
  | with_reducible refine x_callK ?_
  | with_reducible refine x_callK0 ?_
  | with_reducible refine x_bm ?_
  | with_reducible refine x_bm0 ?_
  | with_reducible refine x_tyS ?_
  | with_reducible refine x_sl ?_
  | with_reducible refine x_nopart ?_
  | with_reducible refine x_part ?_
  | with_reducible refine x_fmt0 ?_
  | with_reducible refine x_fmt ?_
  | with_reducible refine x_chain ?_
  | with_reducible refine a_ii ?_
  | with_reducible refine s_ii ?_
  | ((with_reducible refine md_ii ?rdc ?_); (case rdc => first | decide | assumption | omega))
  | with_reducible refine n_i ?_
  | with_reducible refine e_ii ?_
  | with_reducible refine e_bb ?_
  | with_reducible refine ne_ii ?_
  | with_reducible refine ne_bb ?_
  | with_reducible refine lt_ii ?_
  | with_reducible refine lt_ss ?_
  | with_reducible refine le_ii ?_
  | with_reducible refine gt_ii ?_
  | with_reducible refine gt_ss ?_
  | with_reducible refine ge_ii ?_
  | with_reducible refine e_ss ?_
  | with_reducible refine ne_ss ?_
  | with_reducible refine is_N ?_
  | with_reducible refine is_T ?_
  | with_reducible refine is_B ?_
  | with_reducible refine isn_N ?_
  | with_reducible refine isn_T ?_
  | with_reducible refine isn_B ?_
  | with_reducible refine in_s ?_
  | with_reducible refine nin_s ?_
  | with_reducible refine i_i ?_
  | with_reducible refine i_b ?_
  | with_reducible refine ab_i ?_
  | with_reducible refine mx_ii ?_
  | with_reducible refine mn_ii ?_
  | with_reducible refine ty_N ?_
  | with_reducible refine ty_B ?_
  | with_reducible refine ty_I ?_
  | with_reducible refine ty_S ?_
  | with_reducible refine ma_s ?_
  | with_reducible refine mp_s ?_
  | with_reducible refine mdg_s ?_
  | with_reducible refine mf_s ?_
  | with_reducible refine iteT ?_
  | with_reducible refine iteF ?_
  | with_reducible refine iteNt ?_
  | with_reducible refine iteNf ?_
  | with_reducible refine iteTd (by decide) ?_
  | with_reducible refine iteFd (by decide) ?_
  | with_reducible refine iteNd (by decide) ?_
  | with_reducible refine iteNdF (by decide) ?_
  | ((with_reducible refine iteFd ?rdn ?_); (case rdn => (intro rdz; cases rdz; done)))
  | ((with_reducible refine iteNdF ?rdn ?_); (case rdn => (intro rdz; cases rdz; done))))
local macro_rules | `(tactic| walk_at "rd") => `(tactic| (repeat walk_at "rd1"))
section
variable {P : Program} {w : World} {K : PySem.W.Frag} {mg : Str → Option Value} {base : Heap}
/-! is_text -/
def sp_is_text (K : PySem.W.Frag) : Sp := fun vs H Q _ => ∃ l : List Nat, vs = [.str (S l)] ∧ Q (.bl (isT l)) H
theorem ok_is_text (Y : Fx K mg) : FnOk P w K mg base CX0 1 Y.a_is_text Y.fd_is_text ["value"] (sp_is_text K) := by
  refine Y.F_is_text.ok sc_is_text (fun vs H Q E h => ?_) (fun cdv A outer s H vs Q E hr h => ?_)
  · obtain ⟨l, rfl, _⟩ := h
    rfl
  · obtain ⟨l, rfl, q⟩ := h
    refine ⟨_, b_is_text Y hr, ?_⟩
    show t_is_text K _ [some (.str (S l))] H
    unfold t_is_text
    walk_at "rd"
    rw [← is_text_eq l] at q
    refine ite2' (fun e => ?_) (fun e => ?_)
    · walk_at "rd"
      rw [e] at q
      exact q
    · rw [e] at q
      exact q
/-! number_at -/
def numAt (l : List Nat) (a k : Nat) : Option Nat := if ((l.take (a + k)).drop a).length = k ∧ k ≠ 0 ∧ isD ((l.take (a + k)).drop a) = true then some (NumText.digitsVal ((l.take (a + k)).drop a)) else none
inductive NumV : Option Nat → V → Prop where
  | some (n : Nat) : NumV (some n) (.int n)
  | none : NumV none .non
def sp_number_at (K : PySem.W.Frag) : Sp := fun vs H Q _ => ∃ (l : List Nat) (a k : Nat), vs = [.str (S l), .int a, .int k] ∧ isT l = true ∧ l.length ≤ 100000 ∧ k ≤ 100 ∧ ∀ v, NumV (numAt l a k) v → Q v H
theorem ok_number_at (Y : Fx K mg) : FnOk P w K mg base CX0 1 Y.a_number_at Y.fd_number_at ["text", "at", "size"] (sp_number_at K) := by
  refine Y.F_number_at.ok sc_number_at (fun vs H Q E h => ?_) (fun cdv A outer s H vs Q E hr h => ?_)
  · obtain ⟨l, a, k, rfl, _⟩ := h
    rfl
  · obtain ⟨l, a, k, rfl, hT, hl, hk, q⟩ := h
    refine ⟨_, b_number_at Y hr, ?_⟩
    show t_number_at K _ [some (.str (S l)), some (.int a), some (.int k), none] H
    unfold t_number_at
    walk_at "rd"
    refine sl_S (by rw [S_len]; exact Nat.le_trans hl (by decide)) ?_
    rw [show (a : Int) + (k : Int) = ((a + k : Nat) : Int) by simp, cut_mid]
    generalize hw : (l.take (a + k)).drop a = wd
    have hwl : wd.length ≤ k := by
      rw [← hw, List.length_drop, List.length_take]
      omega
    have hwT : isT wd = true := by
      rw [← hw]
      exact isT_drop _ (isT_take _ hT)
    walk_at "rd"
    refine ln_s (by rw [S_len]; exact Nat.le_trans (Nat.le_trans hwl hk) (by decide)) ?_
    rw [S_len]
    walk_at "rd"
    unfold numAt at q
    rw [hw] at q
    refine ite2' (fun e => ?_) (fun e => ?_)
    · have e1 : wd.length = k := by have := of_decide_eq_true e; omega
      walk_at "rd"
      rw [isdigit_eq hwT]
      refine ite2' (fun e => ?_) (fun e => ?_)
      · rw [Bool.and_eq_true] at e
        have e2 : wd ≠ [] := of_decide_eq_true e.1
        have e3 : k ≠ 0 := by
          intro z
          exact e2 (List.eq_nil_of_length_eq_zero (by omega))
        walk_at "rd"
        refine i_s (SX.int_S e.2 e2 (by omega)) (by rw [S_len]; omega) ?_
        rw [if_pos ⟨e1, e3, e.2⟩] at q
        exact q _ (.some _)
      · walk_at "rd"
        rw [if_neg] at q
        · exact q _ .none
        · intro z
          have e2 : wd ≠ [] := by
            intro y
            rw [y] at e1
            exact z.2.1 e1.symm
          rw [decide_eq_true e2, Bool.true_and, z.2.2] at e
          cases e
    · walk_at "rd"
      rw [if_neg] at q
      · exact q _ .none
      · intro z
        have := of_decide_eq_false e
        omega
/-! check_record, piece_text -/
def sp_check_record (K : PySem.W.Frag) : Sp := fun vs H Q _ => ∃ l : List Nat, vs = [.str (S l)] ∧ isT l = true ∧ Q .non H
theorem ok_check_record (Y : Fx K mg) : FnOk P w K mg base CX0 2 Y.a_check_record Y.fd_check_record ["record"] (sp_check_record K) := by
  refine Y.F_check_record.ok sc_check_record (fun vs H Q E h => ?_) (fun cdv A outer s H vs Q E hr h => ?_)
  · obtain ⟨l, rfl, _⟩ := h
    rfl
  · obtain ⟨l, rfl, hT, q⟩ := h
    refine ⟨_, b_check_record Y (ok_is_text Y) hr, ?_⟩
    show t_check_record K _ _ [some (.str (S l))] H
    unfold t_check_record
    walk_at "rd"
    refine ⟨l, rfl, ?_⟩
    rw [hT]
    walk_at "rd"
    exact q
theorem lit_plus : ("+" : Str) = S [43] := rfl
theorem lit_dot : ("." : Str) = S [46] := rfl
def pieceL (age number writer : Nat) (more : Bool) (part : List Nat) : List Nat := pad 6 age ++ pad 6 number ++ pad 6 writer ++ [if more then 43 else 46] ++ part
theorem log_small {n : Nat} (h : n < 1000000) : ((n : Int).natAbs).log2 < 1920 := by
  rw [Int.natAbs_natCast]
  by_cases h0 : n = 0
  · subst h0; decide
  · exact Nat.lt_of_lt_of_le ((Nat.log2_lt h0).mpr (show n < 2 ^ 20 by omega)) (by decide)
theorem pad_len {n : Nat} (h : n < 1000000) : (pad 6 n).length = 6 := by
  unfold pad
  have h1 := (Nat.length_repr_le_iff (n := n) (k := 6) (by decide)).mpr h
  rw [← String.length_toList, Nat.toList_repr] at h1
  rw [List.length_append, List.length_replicate, List.length_map]
  omega
def sp_piece_text (K : PySem.W.Frag) : Sp := fun vs H Q _ => ∃ (a n w : Nat) (m : Bool) (l : List Nat), vs = [.int a, .int n, .int w, .bl m, .str (S l)] ∧ a < 1000000 ∧ n < 1000000 ∧ w < 1000000 ∧ l.length ≤ 100000 ∧ Q (.str (S (pieceL a n w m l))) H
theorem ok_piece_text (Y : Fx K mg) : FnOk P w K mg base CX0 1 Y.a_piece_text Y.fd_piece_text ["age", "number", "writer", "more", "part"] (sp_piece_text K) := by
  refine Y.F_piece_text.ok sc_piece_text (fun vs H Q E h => ?_) (fun cdv A outer s H vs Q E hr h => ?_)
  · obtain ⟨a, n, w, m, l, rfl, _⟩ := h
    rfl
  · obtain ⟨a, n, w, m, l, rfl, ha, hn, hw, hl, q⟩ := h
    refine ⟨_, b_piece_text Y hr, ?_⟩
    show t_piece_text K _ [some (.int a), some (.int n), some (.int w), some (.bl m), some (.str (S l)), none] H
    unfold t_piece_text
    walk_at "rd"
    have fin : ∀ c : List Nat, c = [if m then 43 else 46] → (tRet fun σ H Q => tJs [tFmt0 6 (tVar 0), tFmt0 6 (tVar 1), tFmt0 6 (tVar 2), tFmt (tVar 5), tFmt (tVar 4)] Str.empty σ H fun out H1 => Q (.str out) H1)
        { nx := fun _ H' => Q V.non H', rt := Q } [some (.int a), some (.int n), some (.int w), some (.bl m), some (.str (S l)), some (.str (S c))] H := by
      intro c hc
      have hz : ∀ k : Nat, k ≤ 200000 → k ≤ sizeLine := fun k h => Nat.le_trans h (by decide)
      show tJs _ _ _ _ _
      refine x_js ?_
      walk_at "rd"
      refine ⟨by omega, log_small ha, ?_⟩
      rw [zpad_S]
      walk_at "rd"
      refine ⟨?_, ?_⟩
      · rw [show Str.empty = S [] from rfl, S_app, S_len]
        exact hz _ (by rw [List.nil_append, pad_len ha]; decide)
      rw [show Str.empty = S [] from rfl, S_app]
      refine x_js ?_
      walk_at "rd"
      refine ⟨by omega, log_small hn, ?_⟩
      rw [zpad_S]
      walk_at "rd"
      refine ⟨?_, ?_⟩
      · rw [S_app, S_len]
        exact hz _ (by rw [List.nil_append, List.length_append, pad_len ha, pad_len hn]; decide)
      rw [S_app]
      refine x_js ?_
      walk_at "rd"
      refine ⟨by omega, log_small hw, ?_⟩
      rw [zpad_S]
      walk_at "rd"
      refine ⟨?_, ?_⟩
      · rw [S_app, S_len]
        exact hz _ (by rw [List.nil_append, List.length_append, List.length_append, pad_len ha, pad_len hn, pad_len hw]; decide)
      rw [S_app]
      refine x_js ?_
      walk_at "rd"
      refine .inl ⟨_, rfl, hz _ (by rw [S_len, hc, List.length_singleton]; decide), ?_⟩
      walk_at "rd"
      refine ⟨?_, ?_⟩
      · rw [S_app, S_len]
        exact hz _ (by rw [List.nil_append, List.length_append, List.length_append, List.length_append, pad_len ha, pad_len hn, pad_len hw, hc, List.length_singleton]; decide)
      rw [S_app]
      refine x_js ?_
      walk_at "rd"
      refine .inl ⟨_, rfl, hz _ (by rw [S_len]; omega), ?_⟩
      walk_at "rd"
      refine ⟨?_, ?_⟩
      · rw [S_app, S_len]
        refine hz _ ?_
        rw [List.nil_append, List.length_append, List.length_append, List.length_append, List.length_append, pad_len ha, pad_len hn, pad_len hw, hc, List.length_singleton]
        omega
      rw [S_app]
      refine x_js0 ?_
      rw [List.nil_append, hc]
      exact q
    refine ite2' (fun e => ?_) (fun e => ?_)
    · walk_at "rd"
      subst e
      exact fin [43] rfl
    · walk_at "rd"
      subst e
      exact fin [46] rfl
end
end My

set_option Elab.async false
set_option linter.all false
set_option maxRecDepth 100000
set_option maxHeartbeats 1000000
namespace My
open PySem PySem.Spec PyProof.Rows L2
local macro_rules | `(tactic| walk_at "side") => `(tactic| first | assumption | exact Nat.zero_le _ | decide | omega)
local macro_rules | `(tactic| walk_at "rd1") => `(tactic| first
  | with_reducible refine s_seq ?_
  | with_reducible refine x_gsub ?_
  | with_reducible refine s_asg ?_
  | ((with_reducible refine s_gn ?_); dsimp only [List.set])
  | ((with_reducible refine x_var (v := ?rdv) ?rdhv ?_); (case rdhv => rfl))
  | with_reducible refine x_c ?_
  | with_reducible refine x_op ?_
  | with_reducible refine x_cons ?_
  | with_reducible refine x_nil ?_
  | with_reducible refine x_cb ?_
  | with_reducible refine x_call ?_
  | with_reducible refine s_if ?_
  | with_reducible refine s_ret ?_
  | with_reducible refine s_retN ?_
  | with_reducible refine s_next ?_
  | with_reducible refine s_brk ?_
  | with_reducible refine s_cont ?_
  | with_reducible refine s_drop ?_
  | with_reducible refine s_par ?_
  | with_reducible refine s_par3 ?_
  | ((with_reducible refine s_p2 ?_); dsimp only [List.set])
  | ((with_reducible refine s_p3 ?_); dsimp only [List.set])
  | with_reducible refine f_r1 ?_
  | with_reducible refine f_r2 ?_
  | with_reducible refine f_l ?_
  | with_reducible refine f_t ?_
  | with_reducible refine f_s ?_
  | with_reducible refine c_r1 ?_
  | with_reducible refine c_r2 ?_
  | with_reducible refine c_l ?_
  | with_reducible refine c_t ?_
  | with_reducible refine c_s ?_
  | with_reducible refine x_tst ?_
  | with_reducible refine x_tru ?_
  | with_reducible refine x_truB ?_
  | with_reducible refine x_bl2 ?_
  | with_reducible refine x_int ?_
  | with_reducible refine x_str ?_
  | with_reducible refine x_not ?_
  | with_reducible refine x_and ?_
  | with_reducible refine x_or ?_
  | with_reducible refine x_andV ?_
  | with_reducible refine x_orV ?_
  | with_reducible refine x_notV ?_
  | with_reducible refine x_if ?_
  | with_reducible refine x_yes ?_
  | with_reducible refine x_un ?_
  | with_reducible refine x_tup ?_
  | with_reducible refine x_lst ?_
  | with_reducible refine x_callK ?_
  | with_reducible refine x_callK0 ?_
  | with_reducible refine x_bm ?_
  | with_reducible refine x_bm0 ?_
  | with_reducible refine x_tyS ?_
  | with_reducible refine x_sl ?_
  | with_reducible refine x_nopart ?_
  | with_reducible refine x_part ?_
  | with_reducible refine x_fmt0 ?_
  | with_reducible refine x_fmt ?_
  | with_reducible refine x_chain ?_
  | with_reducible refine a_ii ?_
  | with_reducible refine s_ii ?_
  | ((with_reducible refine md_ii ?rdc ?_); (case rdc => first | decide | assumption | omega))
  | with_reducible refine n_i ?_
  | with_reducible refine e_ii ?_
  | with_reducible refine e_bb ?_
  | with_reducible refine ne_ii ?_
  | with_reducible refine ne_bb ?_
  | with_reducible refine lt_ii ?_
  | with_reducible refine lt_ss ?_
  | with_reducible refine le_ii ?_
  | with_reducible refine gt_ii ?_
  | with_reducible refine gt_ss ?_
  | with_reducible refine ge_ii ?_
  | with_reducible refine e_ss ?_
  | with_reducible refine ne_ss ?_
  | with_reducible refine is_N ?_
  | with_reducible refine is_T ?_
  | with_reducible refine is_B ?_
  | with_reducible refine isn_N ?_
  | with_reducible refine isn_T ?_
  | with_reducible refine isn_B ?_
  | with_reducible refine in_s ?_
  | with_reducible refine nin_s ?_
  | with_reducible refine i_i ?_
  | with_reducible refine i_b ?_
  | with_reducible refine ab_i ?_
  | with_reducible refine mx_ii ?_
  | with_reducible refine mn_ii ?_
  | with_reducible refine ty_N ?_
  | with_reducible refine ty_B ?_
  | with_reducible refine ty_I ?_
  | with_reducible refine ty_S ?_
  | with_reducible refine ma_s ?_
  | with_reducible refine mp_s ?_
  | with_reducible refine mdg_s ?_
  | with_reducible refine mf_s ?_
  | with_reducible refine iteT ?_
  | with_reducible refine iteF ?_
  | with_reducible refine iteNt ?_
  | with_reducible refine iteNf ?_
  | with_reducible refine iteTd (by decide) ?_
  | with_reducible refine iteFd (by decide) ?_
  | with_reducible refine iteNd (by decide) ?_
  | with_reducible refine iteNdF (by decide) ?_
  | ((with_reducible refine iteFd ?rdn ?_); (case rdn => (intro rdz; cases rdz; done)))
  | ((with_reducible refine iteNdF ?rdn ?_); (case rdn => (intro rdz; cases rdz; done))))
local macro_rules | `(tactic| walk_at "rd") => `(tactic| (repeat walk_at "rd1"))
section
variable {P : Program} {w : World} {K : PySem.W.Frag} {mg : Str → Option Value} {base : Heap}
/-! piece_told -/
def toldL (l : List Nat) : PyData :=
  if 19 ≤ l.length ∧ (l[18]? = some 43 ∨ l[18]? = some 46) then
    match numAt l 0 6, numAt l 6 6, numAt l 12 6 with
    | some a, some n, some w => .tuple [.int a, .int n, .int w, .bool (decide (l[18]? = some 43)), .str (S (l.drop 19))]
    | _, _, _ => .none
  else .none
def sp_piece_told (K : PySem.W.Frag) : Sp := fun vs H Q _ => ∃ l : List Nat, vs = [.str (S l)] ∧ isT l = true ∧ l.length ≤ 100000 ∧ ∀ v H', Same H H' → Dp K H' v (toldL l) → Q v H'
theorem ok_piece_told (Y : Fx K mg) : FnOk P w K mg base CX0 2 Y.a_piece_told Y.fd_piece_told ["block"] (sp_piece_told K) := by
  refine Y.F_piece_told.ok sc_piece_told (fun vs H Q E h => ?_) (fun cdv A outer s H vs Q E hr h => ?_)
  · obtain ⟨l, rfl, _⟩ := h
    rfl
  · obtain ⟨l, rfl, hT, hl, q⟩ := h
    refine ⟨_, b_piece_told Y (ok_is_text Y) (ok_number_at Y) hr, ?_⟩
    show t_piece_told K _ _ _ [some (.str (S l)), none, none, none] H
    unfold t_piece_told
    have hz : l.length ≤ sizeLine := Nat.le_trans hl (by decide)
    walk_at "rd"
    refine ⟨l, rfl, ?_⟩
    rw [hT]
    walk_at "rd"
    refine ln_s (by rw [S_len]; exact hz) ?_
    rw [S_len]
    walk_at "rd"
    refine ite2' (fun e => ?_) (fun e => ?_)
    · walk_at "rd"
      have h19 : ¬ 19 ≤ l.length := by have := of_decide_eq_true e; omega
      have e0 : toldL l = .none := if_neg (fun z => h19 z.1)
      rw [e0] at q
      exact q _ H (Same.refl H) .non
    · have h19 : 19 ≤ l.length := by have := of_decide_eq_false e; omega
      have hc : l[18]? = some l[18] := List.getElem?_eq_getElem (by omega)
      walk_at "rd"
      refine ix_S (by rw [S_len]; exact hz) (at_nat (by decide) hc) ?_
      walk_at "rd"
      rw [show ("+." : Str) = S [43, 46] from rfl, S_cps]
      refine ite2' (fun e => ?_) (fun e => ?_)
      · walk_at "rd"
        have hn : l[18] ∉ [43, 46] := by
          rw [Bool.not_eq_true'] at e
          exact of_decide_eq_false e
        have e0 : toldL l = .none := if_neg (fun z => hn (by
          rw [hc] at z
          rcases z.2 with z | z
          · rw [Option.some.inj z]; decide
          · rw [Option.some.inj z]; decide))
        rw [e0] at q
        exact q _ H (Same.refl H) .non
      · have hs : l[18]? = some 43 ∨ l[18]? = some 46 := by
          rw [Bool.not_eq_false'] at e
          have := of_decide_eq_true e
          rw [hc]
          simp only [List.mem_cons, List.not_mem_nil, or_false] at this
          rcases this with z | z
          · exact .inl (congrArg some z)
          · exact .inr (congrArg some z)
        walk_at "rd"
        refine ⟨l, 0, 6, rfl, hT, hl, by decide, fun v1 h1 => ?_⟩
        walk_at "rd"
        refine ⟨l, 6, 6, rfl, hT, hl, by decide, fun v2 h2 => ?_⟩
        walk_at "rd"
        refine ⟨l, 12, 6, rfl, hT, hl, by decide, fun v3 h3 => ?_⟩
        walk_at "rd"
        unfold toldL at q
        rw [if_pos ⟨h19, hs⟩] at q
        generalize numAt l 0 6 = o1 at h1 q
        generalize numAt l 6 6 = o2 at h2 q
        generalize numAt l 12 6 = o3 at h3 q
        cases h1 with
        | none =>
          walk_at "rd"
          exact q _ H (Same.refl H) .non
        | some a =>
          cases h2 with
          | none =>
            walk_at "rd"
            exact q _ H (Same.refl H) .non
          | some n =>
            cases h3 with
            | none =>
              walk_at "rd"
              exact q _ H (Same.refl H) .non
            | some w =>
              walk_at "rd"
              refine ix_S (by rw [S_len]; exact hz) (at_nat (by decide) hc) ?_
              walk_at "rd"
              refine sl_S (by rw [S_len]; exact hz) ?_
              rw [cut_fromI l (show (0 : Int) ≤ 19 by decide), S_one, show ("+" : Str) = S [43] from rfl, S_eq]
              walk_at "rd"
              refine ⟨by show 5 ≤ sizeLine; decide, fun p hp => ?_⟩
              refine q _ _ (same_upd hp) (.tup (tup_of upd_same) (.cons (.int _) (.cons (.int _) (.cons (.int _) (.cons ?_ (.cons (.str _) .nil))))))
              rw [show decide (l[18]? = some 43) = decide ([l[18]] = [43]) by rw [hc]; simp]
              exact .bl _
/-! parts_of, pieces_of -/
def partsN (n full : Nat) : Nat := (max n 1 - 1) / full + 1
def sp_parts_of (K : PySem.W.Frag) : Sp := fun vs H Q _ => ∃ (l : List Nat) (sg : Nat), vs = [.str (S l), .int sg] ∧ l.length ≤ 100000 ∧ 20 ≤ sg ∧ sg ≤ 100000 ∧ ∀ p H' xs, Same H H' → H' p = some (.lst xs) → xs.length = partsN l.length (sg - 19) → Q (.ref p) H'
theorem ok_parts_of (Y : Fx K mg) : FnOk P w K mg base CX0 1 Y.a_parts_of Y.fd_parts_of ["record", "signs"] (sp_parts_of K) := by
  refine Y.F_parts_of.ok sc_parts_of (fun vs H Q E h => ?_) (fun cdv A outer s H vs Q E hr h => ?_)
  · obtain ⟨l, sg, rfl, _⟩ := h
    rfl
  · obtain ⟨l, sg, rfl, hl, h20, hsg, q⟩ := h
    refine ⟨_, b_parts_of Y hr, ?_⟩
    show t_parts_of K _ [some (.str (S l)), some (.int sg), none, none] H
    unfold t_parts_of
    have hz : l.length ≤ sizeLine := Nat.le_trans hl (by decide)
    walk_at "rd"
    show iRng3 _ _ _ _
    show tCons _ _ _ _ _
    walk_at "rd"
    refine ln_s (by rw [S_len]; exact hz) ?_
    rw [S_len]
    walk_at "rd"
    have hfull : (sg : Int) - 19 = ((sg - 19 : Nat) : Int) := by omega
    have hmax : (if (1 : Int) > (l.length : Int) then (1 : Int) else (l.length : Int)) = ((max l.length 1 : Nat) : Int) := by
      split <;> omega
    rw [hfull, hmax]
    generalize hm : max l.length 1 = m
    have hm1 : 1 ≤ m := by omega
    have hm2 : m ≤ 100000 := by omega
    generalize hf : sg - 19 = f
    have hf1 : 1 ≤ f := by omega
    have hf2 : f ≤ 100000 := by omega
    have hn : partsN l.length (sg - 19) = (m - 1) / f + 1 := by unfold partsN; rw [hm, hf]
    have hnn : (m - 1) / f + 1 ≤ 100000 := by
      have := Nat.div_le_self (m - 1) f
      omega
    refine ⟨0, m, f, (m - 1) / f + 1, rfl, ⟨by omega, by omega, ?_, ?_⟩, ?_⟩
    · exact small_pos hm1 (by omega) hf1 (by omega)
    · exact rsize_pos hm1 hf1
    · intro D hD
      refine lc_rangeC (lo := 0) (c := (f : Int)) (n := (m - 1) / f + 1) (fun i H' => Same H H' ∧ ∃ xs, H' D = some (.lst xs) ∧ xs.length = i) ⟨same_upd hD, [], upd_same, rfl⟩ (fun i H' hi hP => ?_) (fun H' hP => ?_)
      · obtain ⟨hS, xs, hx, hxl⟩ := hP
        refine ⟨rfl, ?_⟩
        walk_at "rd"
        refine sl_S (by rw [S_len]; exact hz) ?_
        refine ⟨xs, hx, Nat.lt_of_le_of_lt (show xs.length ≤ 100000 by omega) (by decide), ?_⟩
        refine ⟨same_mut hS hD, _, upd_same, ?_⟩
        rw [List.length_append, hxl]
        rfl
      · obtain ⟨hS, xs, hx, hxl⟩ := hP
        exact q D H' xs hS hx (by rw [hn]; exact hxl)
def sp_pieces_of (K : PySem.W.Frag) : Sp := fun vs H Q _ => ∃ (l : List Nat) (sg : Nat), vs = [.str (S l), .int sg] ∧ isT l = true ∧ l.length ≤ 100000 ∧ 20 ≤ sg ∧ sg ≤ 100000 ∧ ∀ H', Same H H' → Q (.int (partsN l.length (sg - 19))) H'
theorem ok_pieces_of (Y : Fx K mg) : FnOk P w K mg base CX0 3 Y.a_pieces_of Y.fd_pieces_of ["record", "signs"] (sp_pieces_of K) := by
  refine Y.F_pieces_of.ok sc_pieces_of (fun vs H Q E h => ?_) (fun cdv A outer s H vs Q E hr h => ?_)
  · obtain ⟨l, sg, rfl, _⟩ := h
    rfl
  · obtain ⟨l, sg, rfl, hT, hl, h20, hsg, q⟩ := h
    refine ⟨_, b_pieces_of Y (ok_check_record Y) (ok_parts_of Y) hr, ?_⟩
    show t_pieces_of K _ _ _ [some (.str (S l)), some (.int sg)] H
    unfold t_pieces_of
    walk_at "rd"
    refine ⟨l, rfl, hT, ?_⟩
    walk_at "rd"
    refine ⟨l, sg, rfl, hl, h20, hsg, fun p H' xs hS hp hx => ?_⟩
    walk_at "rd"
    refine ln_l (lst_of hp) ?_
    rw [hx]
    exact q H' hS
end
end My

set_option Elab.async false
set_option linter.all false
set_option maxRecDepth 100000
set_option maxHeartbeats 1000000
namespace My
open PySem PySem.Spec PyProof.Rows L2
local macro_rules | `(tactic| walk_at "side") => `(tactic| first | assumption | exact Nat.zero_le _ | decide | omega)
local macro_rules | `(tactic| walk_at "rd1") => `(tactic| first
  | with_reducible refine s_seq ?_
  | with_reducible refine x_gsub ?_
  | with_reducible refine s_asg ?_
  | ((with_reducible refine s_gn ?_); dsimp only [List.set])
  | ((with_reducible refine x_var (v := ?rdv) ?rdhv ?_); (case rdhv => rfl))
  | with_reducible refine x_c ?_
  | with_reducible refine x_op ?_
  | with_reducible refine x_cons ?_
  | with_reducible refine x_nil ?_
  | with_reducible refine x_cb ?_
  | with_reducible refine x_call ?_
  | with_reducible refine s_if ?_
  | with_reducible refine s_ret ?_
  | with_reducible refine s_retN ?_
  | with_reducible refine s_next ?_
  | with_reducible refine s_brk ?_
  | with_reducible refine s_cont ?_
  | with_reducible refine s_drop ?_
  | with_reducible refine s_par ?_
  | with_reducible refine s_par3 ?_
  | ((with_reducible refine s_p2 ?_); dsimp only [List.set])
  | ((with_reducible refine s_p3 ?_); dsimp only [List.set])
  | with_reducible refine f_r1 ?_
  | with_reducible refine f_r2 ?_
  | with_reducible refine f_l ?_
  | with_reducible refine f_t ?_
  | with_reducible refine f_s ?_
  | with_reducible refine c_r1 ?_
  | with_reducible refine c_r2 ?_
  | with_reducible refine c_l ?_
  | with_reducible refine c_t ?_
  | with_reducible refine c_s ?_
  | with_reducible refine x_tst ?_
  | with_reducible refine x_tru ?_
  | with_reducible refine x_truB ?_
  | with_reducible refine x_bl2 ?_
  | with_reducible refine x_int ?_
  | with_reducible refine x_str ?_
  | with_reducible refine x_not ?_
  | with_reducible refine x_and ?_
  | with_reducible refine x_or ?_
  | with_reducible refine x_andV ?_
  | with_reducible refine x_orV ?_
  | with_reducible refine x_notV ?_
  | with_reducible refine x_if ?_
  | with_reducible refine x_yes ?_
  | with_reducible refine x_un ?_
  | with_reducible refine x_tup ?_
  | with_reducible refine x_lst ?_
  | with_reducible refine x_callK ?_
  | with_reducible refine x_callK0 ?_
  | with_reducible refine x_bm ?_
  | with_reducible refine x_bm0 ?_
  | with_reducible refine x_tyS ?_
  | with_reducible refine x_sl ?_
  | with_reducible refine x_nopart ?_
  | with_reducible refine x_part ?_
  | with_reducible refine x_fmt0 ?_
  | with_reducible refine x_fmt ?_
  | with_reducible refine x_chain ?_
  | with_reducible refine a_ii ?_
  | with_reducible refine s_ii ?_
  | ((with_reducible refine md_ii ?rdc ?_); (case rdc => first | decide | assumption | omega))
  | with_reducible refine n_i ?_
  | with_reducible refine e_ii ?_
  | with_reducible refine e_bb ?_
  | with_reducible refine ne_ii ?_
  | with_reducible refine ne_bb ?_
  | with_reducible refine lt_ii ?_
  | with_reducible refine lt_ss ?_
  | with_reducible refine le_ii ?_
  | with_reducible refine gt_ii ?_
  | with_reducible refine gt_ss ?_
  | with_reducible refine ge_ii ?_
  | with_reducible refine e_ss ?_
  | with_reducible refine ne_ss ?_
  | with_reducible refine is_N ?_
  | with_reducible refine is_T ?_
  | with_reducible refine is_B ?_
  | with_reducible refine isn_N ?_
  | with_reducible refine isn_T ?_
  | with_reducible refine isn_B ?_
  | with_reducible refine in_s ?_
  | with_reducible refine nin_s ?_
  | with_reducible refine i_i ?_
  | with_reducible refine i_b ?_
  | with_reducible refine ab_i ?_
  | with_reducible refine mx_ii ?_
  | with_reducible refine mn_ii ?_
  | with_reducible refine ty_N ?_
  | with_reducible refine ty_B ?_
  | with_reducible refine ty_I ?_
  | with_reducible refine ty_S ?_
  | with_reducible refine ma_s ?_
  | with_reducible refine mp_s ?_
  | with_reducible refine mdg_s ?_
  | with_reducible refine mf_s ?_
  | with_reducible refine iteT ?_
  | with_reducible refine iteF ?_
  | with_reducible refine iteNt ?_
  | with_reducible refine iteNf ?_
  | with_reducible refine iteTd (by decide) ?_
  | with_reducible refine iteFd (by decide) ?_
  | with_reducible refine iteNd (by decide) ?_
  | with_reducible refine iteNdF (by decide) ?_
  | ((with_reducible refine iteFd ?rdn ?_); (case rdn => (intro rdz; cases rdz; done)))
  | ((with_reducible refine iteNdF ?rdn ?_); (case rdn => (intro rdz; cases rdz; done))))
local macro_rules | `(tactic| walk_at "rd") => `(tactic| (repeat walk_at "rd1"))
section
variable {P : Program} {w : World} {K : PySem.W.Frag} {mg : Str → Option Value} {base : Heap}
/-! the law's spring -/
def SprAt (H : Hp) (s g : Addr) : Prop := ∃ (gr : List Int) (m c : Int), H s = some (.lst [.ref g, .int m, .int c]) ∧ H g = some (.lst (gr.map V.int)) ∧ 0 ≤ m ∧ m < 2 ^ 62 ∧ gr.length ≤ 1000
def Frm (s g : Addr) (H H' : Hp) : Prop := ∀ a o, a ≠ s → a ≠ g → H a = some o → H' a = some o
theorem Frm.refl {s g : Addr} (H : Hp) : Frm s g H H := fun _ _ _ _ h => h
theorem Frm.trans {s g : Addr} {H1 H2 H3 : Hp} (a : Frm s g H1 H2) (b : Frm s g H2 H3) : Frm s g H1 H3 := fun x o h1 h2 h => b x o h1 h2 (a x o h1 h2 h)
theorem Frm.new {s g p : Addr} {H H' : Hp} {o : HO} (a : Frm s g H H') (h : H' p = none) : Frm s g H (upd H' p o) := fun x u h1 h2 e => by
  have e' := a x u h1 h2 e
  rw [upd_ne (ne_of_none e' h)]
  exact e'
theorem Frm.updS {s g : Addr} {H H' : Hp} {o : HO} (a : Frm s g H H') : Frm s g H (upd H' s o) := fun x u h1 h2 e => by
  rw [upd_ne h1]
  exact a x u h1 h2 e
theorem Frm.updG {s g : Addr} {H H' : Hp} {o : HO} (a : Frm s g H H') : Frm s g H (upd H' g o) := fun x u h1 h2 e => by
  rw [upd_ne h2]
  exact a x u h1 h2 e
theorem Frm.same {s g : Addr} {R H H' : Hp} (a : Frm s g H H') (e : Same R H) (hs : R s = none) (hg : R g = none) : Same R H' := fun x o h => a x o (fun z => by rw [z, hs] at h; cases h) (fun z => by rw [z, hg] at h; cases h) (e x o h)
theorem ints_ne {g : Addr} {m c : Int} {gr : List Int} : (HO.lst [.ref g, .int m, .int c]) ≠ .lst (gr.map V.int) := by
  intro e
  injection e with e
  cases gr with
  | nil => cases e
  | cons x xs =>
    injection e with e1 e2
    cases e1
theorem SprAt.ne {H : Hp} {s g : Addr} (h : SprAt H s g) : s ≠ g := by
  obtain ⟨gr, m, c, h1, h2, _⟩ := h
  exact ne_of h1 h2 ints_ne
theorem SprAt.new {H : Hp} {s g p : Addr} {o : HO} (h : SprAt H s g) (hp : H p = none) : SprAt (upd H p o) s g := by
  obtain ⟨gr, m, c, h1, h2, h3⟩ := h
  exact ⟨gr, m, c, by rw [upd_ne (ne_of_none h1 hp)]; exact h1, by rw [upd_ne (ne_of_none h2 hp)]; exact h2, h3⟩
/-- a new object's later change -/
theorem SprAt.keep {H : Hp} {s g p : Addr} {o : HO} (h : SprAt H s g) (h1 : p ≠ s) (h2 : p ≠ g) : SprAt (upd H p o) s g := by
  obtain ⟨gr, m, c, e1, e2, h3⟩ := h
  exact ⟨gr, m, c, by rw [upd_ne (Ne.symm h1)]; exact e1, by rw [upd_ne (Ne.symm h2)]; exact e2, h3⟩
theorem SprAt.off {H : Hp} {s g p : Addr} (h : SprAt H s g) (hp : H p = none) : p ≠ s ∧ p ≠ g := by
  obtain ⟨gr, m, c, h1, h2, _⟩ := h
  exact ⟨ne_new h1 hp, ne_new h2 hp⟩
theorem dp_ints {p : Addr} {H : Hp} (ns : List Int) (h : SqL K H p (ns.map V.int)) : Dp K H (.ref p) (.list (ns.map PyData.int)) := by
  refine .lst h ?_
  clear h
  induction ns with
  | nil => exact .nil
  | cons b bs ih => exact .cons (.int b) ih
theorem shaped_ints (ns : List Int) : SeqAt.shaped (.list (ns.map PyData.int)) = true := by
  have h1 : PyData.canLayAll0 (ns.map PyData.int) = true := by
    induction ns with
    | nil => rfl
    | cons b bs ih => simp [PyData.canLayAll0, PyData.canLay0, ih]
  have h2 : PyData.depthAll (ns.map PyData.int) ≤ 1 := by
    clear h1
    induction ns with
    | nil => simp [PyData.depthAll]
    | cons b bs ih =>
      simp only [List.map_cons, PyData.depthAll, PyData.depth] at *
      omega
  unfold SeqAt.shaped
  rw [Bool.and_eq_true]
  refine ⟨h1, decide_eq_true ?_⟩
  simp only [PyData.depth]
  omega
def sp__law_drop (K : PySem.W.Frag) : Sp := fun vs H Q _ => ∃ (s g : Addr) (n : Int), vs = [.ref s, .int n] ∧ SprAt H s g ∧ 0 < n ∧ n < 2 ^ 40 ∧ ∀ r H', 0 ≤ r → r < n → SprAt H' s g → Frm s g H H' → Q (.int r) H'
theorem log_40 {n : Int} (h0 : 0 < n) (h : n < 2 ^ 40) : n.natAbs.log2 < 9000 := by
  have h1 : n.natAbs < 2 ^ 40 := by omega
  exact Nat.lt_trans ((Nat.log2_lt (by omega)).mpr h1) (by decide)
theorem ok__law_drop (Y : Fx K mg) : FnOk P w K mg base CX0 1 Y.a__law_drop Y.fd__law_drop ["_law_spring_here", "_law_many"] (sp__law_drop K) := by
  refine Y.F__law_drop.ok sc__law_drop (fun vs H Q E h => ?_) (fun cdv A outer st H vs Q E hr h => ?_)
  · obtain ⟨s, g, n, rfl, _⟩ := h
    rfl
  · obtain ⟨s, g, n, rfl, hSp, hn0, hn1, q⟩ := h
    have hne := hSp.ne
    obtain ⟨gr, m, c, hs, hg, hm0, hm1, hgl⟩ := hSp
    refine ⟨_, b__law_drop Y hr, ?_⟩
    show t__law_drop K _ [some (.ref s), some (.int n), none, none] H
    unfold t__law_drop
    walk_at "rd"
    refine ix_L (lst_of hs) (by rfl) ?_
    walk_at "rd"
    refine w_while (fun k σ H' => σ = [some (.ref s), some (.int n), some (.ref g), none] ∧ ∃ gr : List Int, gr.length = k ∧ gr.length ≤ 1000 ∧ H' s = some (.lst [.ref g, .int m, .int c]) ∧ H' g = some (.lst (gr.map V.int)) ∧ Frm s g H H') gr.length ⟨rfl, gr, rfl, hgl, hs, hg, Frm.refl H⟩ (fun k σ H1 hW => ?_)
    obtain ⟨rfl, gr1, hk, hl1, hs1, hg1, hF1⟩ := hW
    -- what stands behind the loop
    have after : ∀ H2 : Hp, H2 s = some (.lst [.ref g, .int m, .int c]) → H2 g = some (.lst (gr1.map V.int)) → Frm s g H H2 →
        (tSeq (tIfS (tTest (tOp (rNE K) (tVar 2) (tLst tNil))) (tSeq (tAsg (tOp rMOD (tCB rINT (tCons (tOp (rIX K) (tVar 2) (tC (.int 0))) tNil)) (tVar 1)) (gName 3))
      (tSeq (tAsg (tOp rFDIV (tOp (rIX K) (tVar 2) (tC (.int 0))) (tVar 1)) (gSub (tVar 2) (tC (.int 0)) rSetL))
      (tRet (tVar 3)))) tNext)
    (tSeq (tAsg (tOp (rADD K) (tOp (rIX K) (tVar 0) (tC (.int 2))) (tC (.int 1))) (gSub (tVar 0) (tC (.int 2)) rSetL))
    (tSeq (tAsg (tOp rMOD (tCB rINT (tCons (tOp (rADD K) (tOp (rMUL K) (tOp (rIX K) (tVar 0) (tC (.int 1))) (tC (.int 6364136223846793005))) (tOp (rMUL K) (tOp (rIX K) (tVar 0) (tC (.int 2))) (tC (.int 1442695040888963407)))) tNil)) (tC (.int 2305843009213693951))) (gSub (tVar 0) (tC (.int 1)) rSetL))
    (tRet (tOp rMOD (tOp rFDIV (tOp rMOD (tCB rINT (tCons (tOp (rMUL K) (tOp (rIX K) (tVar 0) (tC (.int 1))) (tOp (rIX K) (tVar 0) (tC (.int 1)))) tNil)) (tC (.int 2305843009213693921))) (tC (.int 1048576))) (tVar 1))))))
        { nx := fun _ H' => Q .non H', rt := Q } [some (.ref s), some (.int n), some (.ref g), none] H2 := by
      intro H2 hs2 hg2 hF2
      walk_at "rd"
      refine ⟨Nat.zero_le _, fun p hp => ?_⟩
      have hs3 : (upd H2 p (.lst [])) s = some (.lst [.ref g, .int m, .int c]) := by rw [upd_ne (ne_of_none hs2 hp)]; exact hs2
      have hg3 : (upd H2 p (.lst [])) g = some (.lst (gr1.map V.int)) := by rw [upd_ne (ne_of_none hg2 hp)]; exact hg2
      have hF3 : Frm s g H (upd H2 p (.lst [])) := hF2.new hp
      refine ne_d (dp_ints gr1 (lst_of hg3)) (.lst (lst_of upd_same) .nil) (shaped_ints gr1) (by decide) ?_
      generalize upd H2 p (.lst []) = H3 at hs3 hg3 hF3
      cases gr1 with
      | nil =>
        show ∃ k, V.bl (!true) = .bl k ∧ _
        walk_at "rd"
        refine ix_L (lst_of hs3) (by rfl) ?_
        walk_at "rd"
        refine st_L hs3 (by decide) (by show (2 : Int) < 3; decide) ?_
        have hs4 : (upd H3 s (.lst [.ref g, .int m, .int (c + 1)])) s = some (.lst [.ref g, .int m, .int (c + 1)]) := upd_same
        have hg4 : (upd H3 s (.lst [.ref g, .int m, .int (c + 1)])) g = some (.lst (([] : List Int).map V.int)) := by rw [upd_ne (Ne.symm hne)]; exact hg3
        have hF4 : Frm s g H (upd H3 s (.lst [.ref g, .int m, .int (c + 1)])) := hF3.updS
        show tSeq _ _ _ _ (upd H3 s (.lst [.ref g, .int m, .int (c + 1)]))
        generalize upd H3 s (.lst [.ref g, .int m, .int (c + 1)]) = H4 at hs4 hg4 hF4
        walk_at "rd"
        refine ix_L (lst_of hs4) (by rfl) ?_
        walk_at "rd"
        refine m_ii (.inl (.inr (by decide))) ?_
        walk_at "rd"
        refine ix_L (lst_of hs4) (by rfl) ?_
        walk_at "rd"
        refine m_ii (.inl (.inr (by decide))) ?_
        walk_at "rd"
        generalize he : (m * 6364136223846793005 + (c + 1) * 1442695040888963407) % 2305843009213693951 = m2
        have b0 : 0 ≤ m2 := by rw [← he]; exact Int.emod_nonneg _ (by decide)
        have b1 : m2 < 2305843009213693951 := by rw [← he]; exact Int.emod_lt_of_pos _ (by decide)
        refine st_L hs4 (by decide) (by show (1 : Int) < 3; decide) ?_
        have hs5 : (upd H4 s (.lst [.ref g, .int m2, .int (c + 1)])) s = some (.lst [.ref g, .int m2, .int (c + 1)]) := upd_same
        have hg5 : (upd H4 s (.lst [.ref g, .int m2, .int (c + 1)])) g = some (.lst (([] : List Int).map V.int)) := by rw [upd_ne (Ne.symm hne)]; exact hg4
        have hF5 : Frm s g H (upd H4 s (.lst [.ref g, .int m2, .int (c + 1)])) := hF4.updS
        show tRet _ _ _ (upd H4 s (.lst [.ref g, .int m2, .int (c + 1)]))
        generalize upd H4 s (.lst [.ref g, .int m2, .int (c + 1)]) = H5 at hs5 hg5 hF5
        walk_at "rd"
        refine ix_L (lst_of hs5) (by rfl) ?_
        walk_at "rd"
        refine ix_L (lst_of hs5) (by rfl) ?_
        refine m_ii (.inl (.inl ⟨by omega, by omega⟩)) ?_
        walk_at "rd"
        refine fd_ii ⟨by decide, by decide⟩ ?_
        walk_at "rd"
        exact q _ _ (Int.emod_nonneg _ (by omega)) (Int.emod_lt_of_pos _ hn0) ⟨[], m2, c + 1, hs5, hg5, b0, by omega, by decide⟩ hF5
      | cons x xs =>
        show ∃ k, V.bl (!false) = .bl k ∧ _
        walk_at "rd"
        refine ix_L (lst_of hg3) (at_nat (by decide) rfl) ?_
        walk_at "rd"
        refine ix_L (lst_of hg3) (at_nat (by decide) rfl) ?_
        walk_at "rd"
        refine fd_ii ⟨hn0, log_40 hn0 hn1⟩ ?_
        walk_at "rd"
        refine st_L hg3 (by decide) (by show (0 : Int) < ((xs.map V.int).length + 1 : Nat); omega) ?_
        walk_at "rd"
        refine q _ _ (Int.emod_nonneg _ (by omega)) (Int.emod_lt_of_pos _ hn0) ⟨(x / n) :: xs, m, c, ?_, upd_same, hm0, hm1, hl1⟩ hF3.updG
        rw [upd_ne hne]
        exact hs3
    walk_at "rd"
    refine ⟨Nat.zero_le _, fun p hp => ?_⟩
    have hs3 : (upd H1 p (.lst [])) s = some (.lst [.ref g, .int m, .int c]) := by rw [upd_ne (ne_of_none hs1 hp)]; exact hs1
    have hg3 : (upd H1 p (.lst [])) g = some (.lst (gr1.map V.int)) := by rw [upd_ne (ne_of_none hg1 hp)]; exact hg1
    have hF3 : Frm s g H (upd H1 p (.lst [])) := hF1.new hp
    refine ne_d (dp_ints gr1 (lst_of hg3)) (.lst (lst_of upd_same) .nil) (shaped_ints gr1) (by decide) ?_
    generalize upd H1 p (.lst []) = H3 at hs3 hg3 hF3
    cases gr1 with
    | nil =>
      show ∃ k, V.bl (!true) = .bl k ∧ _
      refine x_bl2 ?_
      refine iteNt ?_
      refine iteF ?_
      exact after H3 hs3 hg3 hF3
    | cons x xs =>
      show ∃ k, V.bl (!false) = .bl k ∧ _
      walk_at "rd"
      refine ix_L (lst_of hg3) (at_nat (by decide) rfl) ?_
      walk_at "rd"
      refine ite2' (fun e => ?_) (fun e => ?_)
      · refine ⟨fun σ' H' => ∃ k', k' < k ∧ (σ' = [some (.ref s), some (.int n), some (.ref g), none] ∧ ∃ gr : List Int, gr.length = k' ∧ gr.length ≤ 1000 ∧ H' s = some (.lst [.ref g, .int m, .int c]) ∧ H' g = some (.lst (gr.map V.int)) ∧ Frm s g H H'), fun _ _ h => h, ?_⟩
        walk_at "rd"
        refine x_tyL (lst_of hg3) ?_
        walk_at "rd"
        refine pop_L hg3 ?_
        refine ⟨xs.length, by rw [← hk]; exact Nat.lt_succ_self _, rfl, xs, rfl, Nat.le_of_succ_le hl1, ?_, upd_same, hF3.updG⟩
        rw [upd_ne hne]
        exact hs3
      · exact after H3 hs3 hg3 hF3
end
end My

set_option Elab.async false
set_option linter.all false
set_option maxRecDepth 100000
set_option maxHeartbeats 1000000
namespace My
open PySem PySem.Spec PyProof.Rows L2
local macro_rules | `(tactic| walk_at "len") => `(tactic| first | assumption | omega | decide | (simp only [List.length_append, List.length_take, List.length_drop, List.length_cons, List.length_nil, List.length_replicate]; omega))
local macro_rules | `(tactic| walk_at "side") => `(tactic| first | assumption | exact Nat.zero_le _ | decide | omega)
local macro_rules | `(tactic| walk_at "rd1") => `(tactic| first
  | with_reducible refine s_seq ?_
  | with_reducible refine x_gsub ?_
  | with_reducible refine s_asg ?_
  | ((with_reducible refine s_gn ?_); dsimp only [List.set])
  | ((with_reducible refine x_var (v := ?rdv) ?rdhv ?_); (case rdhv => rfl))
  | with_reducible refine x_c ?_
  | with_reducible refine x_op ?_
  | with_reducible refine x_cons ?_
  | with_reducible refine x_nil ?_
  | with_reducible refine x_cb ?_
  | with_reducible refine x_call ?_
  | with_reducible refine s_if ?_
  | with_reducible refine s_ret ?_
  | with_reducible refine s_retN ?_
  | with_reducible refine s_next ?_
  | with_reducible refine s_brk ?_
  | with_reducible refine s_cont ?_
  | with_reducible refine s_drop ?_
  | with_reducible refine s_par ?_
  | with_reducible refine s_par3 ?_
  | ((with_reducible refine s_p2 ?_); dsimp only [List.set])
  | ((with_reducible refine s_p3 ?_); dsimp only [List.set])
  | with_reducible refine f_r1 ?_
  | with_reducible refine f_r2 ?_
  | with_reducible refine f_l ?_
  | with_reducible refine f_t ?_
  | with_reducible refine f_s ?_
  | with_reducible refine c_r1 ?_
  | with_reducible refine c_r2 ?_
  | with_reducible refine c_l ?_
  | with_reducible refine c_t ?_
  | with_reducible refine c_s ?_
  | with_reducible refine x_tst ?_
  | with_reducible refine x_tru ?_
  | with_reducible refine x_truB ?_
  | with_reducible refine x_bl2 ?_
  | with_reducible refine x_int ?_
  | with_reducible refine x_str ?_
  | with_reducible refine x_not ?_
  | with_reducible refine x_and ?_
  | with_reducible refine x_or ?_
  | with_reducible refine x_andV ?_
  | with_reducible refine x_orV ?_
  | with_reducible refine x_notV ?_
  | with_reducible refine x_if ?_
  | with_reducible refine x_yes ?_
  | with_reducible refine x_un ?_
  | with_reducible refine x_tup ?_
  | with_reducible refine x_lst ?_
  | with_reducible refine x_callK ?_
  | with_reducible refine x_callK0 ?_
  | with_reducible refine x_bm ?_
  | with_reducible refine x_bm0 ?_
  | with_reducible refine x_tyS ?_
  | with_reducible refine x_sl ?_
  | with_reducible refine x_nopart ?_
  | with_reducible refine x_part ?_
  | with_reducible refine x_fmt0 ?_
  | with_reducible refine x_fmt ?_
  | with_reducible refine x_chain ?_
  | with_reducible refine a_ii ?_
  | ((with_reducible refine sl_to ?rda ?rdb ?_); (case rda => walk_at "len"); (case rdb => walk_at "len"))
  | ((with_reducible refine sl_from ?rda ?rdb ?_); (case rda => walk_at "len"); (case rdb => walk_at "len"))
  | ((with_reducible refine sl_mid ?rda ?rdb ?rdc ?_); (case rda => walk_at "len"); (case rdb => walk_at "len"); (case rdc => walk_at "len"))
  | ((with_reducible refine a_SS ?rda ?_); (case rda => walk_at "len"))
  | ((with_reducible refine ln_S ?rda ?_); (case rda => walk_at "len"))
  | with_reducible refine e_SS ?_
  | with_reducible refine ne_SS ?_
  | with_reducible refine s_ii ?_
  | ((with_reducible refine md_ii ?rdc ?_); (case rdc => first | decide | assumption | omega))
  | with_reducible refine n_i ?_
  | with_reducible refine e_ii ?_
  | with_reducible refine e_bb ?_
  | with_reducible refine ne_ii ?_
  | with_reducible refine ne_bb ?_
  | with_reducible refine lt_ii ?_
  | with_reducible refine lt_ss ?_
  | with_reducible refine le_ii ?_
  | with_reducible refine gt_ii ?_
  | with_reducible refine gt_ss ?_
  | with_reducible refine ge_ii ?_
  | with_reducible refine e_ss ?_
  | with_reducible refine ne_ss ?_
  | with_reducible refine is_N ?_
  | with_reducible refine is_T ?_
  | with_reducible refine is_B ?_
  | with_reducible refine isn_N ?_
  | with_reducible refine isn_T ?_
  | with_reducible refine isn_B ?_
  | with_reducible refine in_s ?_
  | with_reducible refine nin_s ?_
  | with_reducible refine i_i ?_
  | with_reducible refine i_b ?_
  | with_reducible refine ab_i ?_
  | with_reducible refine mx_ii ?_
  | with_reducible refine mn_ii ?_
  | with_reducible refine ty_N ?_
  | with_reducible refine ty_B ?_
  | with_reducible refine ty_I ?_
  | with_reducible refine ty_S ?_
  | with_reducible refine ma_s ?_
  | with_reducible refine mp_s ?_
  | with_reducible refine mdg_s ?_
  | with_reducible refine mf_s ?_
  | with_reducible refine iteT ?_
  | with_reducible refine iteF ?_
  | with_reducible refine iteNt ?_
  | with_reducible refine iteNf ?_
  | with_reducible refine iteTd (by decide) ?_
  | with_reducible refine iteFd (by decide) ?_
  | with_reducible refine iteNd (by decide) ?_
  | with_reducible refine iteNdF (by decide) ?_
  | ((with_reducible refine iteFd ?rdn ?_); (case rdn => (intro rdz; cases rdz; done)))
  | ((with_reducible refine iteNdF ?rdn ?_); (case rdn => (intro rdz; cases rdz; done))))
local macro_rules | `(tactic| walk_at "rd") => `(tactic| (repeat walk_at "rd1"))
section
variable {P : Program} {w : World} {K : PySem.W.Frag} {mg : Str → Option Value} {base : Heap}
theorem map_get {ns : List Int} {i : Nat} {x : V} (h : (ns.map V.int)[i]? = some x) : ∃ z, ns[i]? = some z ∧ x = .int z := by
  rw [List.getElem?_map] at h
  cases e : ns[i]? with
  | none => rw [e] at h; cases h
  | some z =>
    rw [e] at h
    exact ⟨z, rfl, (Option.some.inj h).symm⟩
/-! the spring's making -/
def sp__law_spring (K : PySem.W.Frag) : Sp := fun vs H Q _ => ∃ (a : Addr) (ns : List Int), vs = [.ref a] ∧ SqL K H a (ns.map V.int) ∧ ns.length ≤ 63 ∧ ∀ s g H', H s = none → H g = none → SprAt H' s g → Same H H' → Q (.ref s) H'
theorem ok__law_spring (Y : Fx K mg) : FnOk P w K mg base CX0 1 Y.a__law_spring Y.fd__law_spring ["_law_script"] (sp__law_spring K) := by
  refine Y.F__law_spring.ok sc__law_spring (fun vs H Q E h => ?_) (fun cdv A outer st H vs Q E hr h => ?_)
  · obtain ⟨a, ns, rfl, _⟩ := h
    rfl
  · obtain ⟨a, ns, rfl, hS, hl, q⟩ := h
    refine ⟨_, b__law_spring Y hr, ?_⟩
    show t__law_spring K _ [some (.ref a), none, none, none] H
    unfold t__law_spring
    walk_at "rd"
    refine lcL_mk hS (fun D i H' => Same H H' ∧ ∃ gr : List Int, gr.length ≤ i ∧ H' D = some (.lst (gr.map V.int))) (fun D hD => ⟨same_upd hD, [], Nat.le_refl _, upd_same⟩) (fun D i H' hD _ hp => hp.1.seq hS) (fun D i x H' hD hx hp => ?_) (fun D H1 hD hp => ?_)
    · obtain ⟨hs, gr, hgl, hg⟩ := hp
      obtain ⟨z, hz, rfl⟩ := map_get hx
      refine ⟨rfl, ?_⟩
      walk_at "rd"
      refine pw_ii ⟨by decide, by decide, by decide⟩ ?_
      walk_at "rd"
      refine ite2' (fun e => ?_) (fun e => ?_)
      · walk_at "rd"
        refine pw_ii ⟨by decide, by decide, by decide⟩ ?_
        walk_at "rd"
        have hil : i < ns.length := (List.getElem?_eq_some_iff.mp hz).1
        refine ⟨_, hg, Nat.lt_of_le_of_lt (show (gr.map V.int).length ≤ 100 by rw [List.length_map]; omega) (by decide), same_mut hs hD, gr ++ [z - 10 ^ Int.toNat 18], ?_, ?_⟩
        · rw [List.length_append]
          exact Nat.succ_le_succ hgl
        · rw [upd_same, List.map_append]
          rfl
      · exact ⟨hs, gr, Nat.le_succ_of_le hgl, hg⟩
    · obtain ⟨hs, gr, hgl, hg⟩ := hp
      walk_at "rd"
      refine ln_l (hs.seq hS) ?_
      refine m_ii (.inl (.inl ⟨by decide, by decide⟩)) ?_
      walk_at "rd"
      rw [List.length_map] at hgl
      rw [List.length_map]
      refine forL_mk (hs.seq hS) (fun i σ H' => ∃ (y : Option V) (m : Int), σ = [some (.ref a), some (.ref D), y, some (.int m)] ∧ 0 ≤ m ∧ m < 2 ^ 62 ∧ H' = H1) ⟨none, _, rfl, by omega, by omega, rfl⟩ (fun i σ H' _ hp => by obtain ⟨y, m, _, _, _, rfl⟩ := hp; exact hs.seq hS) (fun i x σ H' hx hp => ?_) (fun σ H' hp => ?_)
      · obtain ⟨y, m, rfl, hm0, hm1, rfl⟩ := hp
        obtain ⟨z, hz, rfl⟩ := map_get hx
        walk_at "rd"
        refine m_ii (.inl (.inr (by decide))) ?_
        walk_at "rd"
        refine m_ii (.inl (.inr (by decide))) ?_
        walk_at "rd"
        refine ⟨_, _, rfl, Int.emod_nonneg _ (by decide), Int.lt_trans (Int.emod_lt_of_pos _ (by decide)) (by decide), rfl⟩
      · obtain ⟨y, m, rfl, hm0, hm1, rfl⟩ := hp
        walk_at "rd"
        refine ⟨by show 3 ≤ sizeLine; decide, fun s hsn => ?_⟩
        have hsH : H s = none := hs.free hsn
        refine q s D _ hsH hD ⟨gr, m, 0, upd_same, by rw [upd_ne (ne_of_none hg hsn)]; exact hg, hm0, hm1, by omega⟩ (same_new hs hsn)
/-! a drawn text -/
def allS : List Nat := [32, 33, 34, 35, 36, 38, 39, 40, 41, 42, 43, 44, 45, 46, 47, 48, 49, 50, 51, 52, 53, 54, 55, 56, 57, 58, 59, 60, 61, 62, 63, 64, 65, 66, 67, 68, 69, 70, 71, 72, 73, 74, 75, 76, 77, 78, 79, 80, 81, 82, 83, 84, 85, 86, 87, 88, 89, 90, 91, 92, 93, 94, 95, 96, 97, 98, 99, 100, 101, 102, 103, 104, 105, 106, 107, 108, 109, 110, 111, 112, 113, 114, 115, 116, 117, 118, 119, 120, 121, 122, 123, 124, 125, 126]
theorem flat_len : ∀ {cs : List (List Nat)}, (∀ c ∈ cs, c.length = 1) → cs.flatten.length = cs.length
  | [], _ => rfl
  | c :: cs, h => by
    rw [List.flatten_cons, List.length_append, h c (List.mem_cons_self ..), flat_len fun d hd => h d (List.mem_cons_of_mem _ hd), List.length_cons]
    omega
theorem isT_flat {cs : List (List Nat)} (h : ∀ c ∈ cs, isT c = true) : isT cs.flatten = true := isT_of fun x hx => by
  obtain ⟨c, hc, hm⟩ := List.mem_flatten.mp hx
  exact isT_mem (h c hc) hm
theorem repl_len (k : Nat) (l : List Nat) : (List.replicate k l).flatten.length = k * l.length := by
  rw [List.length_flatten, List.map_replicate, List.sum_replicate_nat]
theorem isT_get {l : List Nat} (h : isT l = true) {i c : Nat} (hc : l[i]? = some c) : isT [c] = true := isT_of fun x hx => by
  rw [List.mem_singleton] at hx
  subst hx
  exact isT_mem h (List.mem_of_getElem? hc)
def sp__law_text (K : PySem.W.Frag) : Sp := fun vs H Q _ => ∃ (s g : Addr) (n : Nat), vs = [.ref s, .int n] ∧ SprAt H s g ∧ n ≤ 100000 ∧ ∀ l H', l.length = n → isT l = true → SprAt H' s g → Frm s g H H' → Q (.str (S l)) H'
theorem ok__law_text (Y : Fx K mg) : FnOk P w K mg base CX0 2 Y.a__law_text Y.fd__law_text ["_law_spring_here", "_law_size"] (sp__law_text K) := by
  refine Y.F__law_text.ok sc__law_text (fun vs H Q E h => ?_) (fun cdv A outer st H vs Q E hr h => ?_)
  · obtain ⟨s, g, n, rfl, _⟩ := h
    rfl
  · obtain ⟨s, g, n, rfl, hSp, hn, q⟩ := h
    refine ⟨_, b__law_text Y (ok__law_drop Y) hr, ?_⟩
    show t__law_text K _ _ [some (.ref s), some (.int n), none, none, none, none, none] H
    unfold t__law_text
    walk_at "rd"
    refine s_cut (fun σ' H' => ∃ sg : List Nat, σ' = [some (.ref s), some (.int n), some (.str (S sg)), none, none, none, none] ∧ isT sg = true ∧ 0 < sg.length ∧ sg.length ≤ 100 ∧ SprAt H' s g ∧ Frm s g H H') ?_ ?_
    · walk_at "rd"
      refine ⟨s, g, 4, rfl, hSp, by decide, by decide, fun r H1 h0 h1 hSp1 hF1 => ?_⟩
      walk_at "rd"
      refine ite2' (fun e => ?_) (fun e => ?_)
      · walk_at "rd"
        exact ⟨[48, 49, 50, 51, 52, 53, 54, 55, 56, 57, 43, 46, 43, 46, 48, 32], rfl, by decide, by decide, by decide, hSp1, hF1⟩
      · walk_at "rd"
        exact ⟨allS, rfl, by decide, by decide, by decide, hSp1, hF1⟩
    · rintro σ' H1 ⟨sg, rfl, hT, hl0, hl1, hSp1, hF1⟩
      walk_at "rd"
      refine ⟨s, g, 4, rfl, hSp1, by decide, by decide, fun r H2 h0 h1 hSp2 hF2 => ?_⟩
      walk_at "rd"
      refine lcR1_mk (by omega) (by omega) (fun D i H' => SprAt H' s g ∧ Frm s g H H' ∧ ∃ cs : List (List Nat), H' D = some (.lst ((cs.map S).map V.str)) ∧ cs.length = i ∧ (∀ c ∈ cs, c.length = 1) ∧ ∀ c ∈ cs, isT c = true) (fun D hD => ⟨hSp2.new hD, ((hF1.trans hF2).new hD), [], upd_same, rfl, (by intro _ h; cases h), (by intro _ h; cases h)⟩) (fun D i H' hD hi hp => ?_) (fun D H3 hD hp => ?_)
      · obtain ⟨hSp3, hF3, cs, hc, hcl, hc1, hc2⟩ := hp
        refine ⟨rfl, ?_⟩
        walk_at "rd"
        refine ⟨s, g, sg.length, rfl, hSp3, by omega, by omega, fun r2 H4 h2 h3 hSp4 hF4 => ?_⟩
        walk_at "rd"
        refine ix_SS h2 h3 (by omega) fun c hcc => ?_
        obtain ⟨o1, o2⟩ := hSp2.off hD
        have hc4 := hF4 D _ o1 o2 hc
        refine ⟨_, hc4, ?_, hSp4.keep o1 o2, ?_, cs ++ [[c]], ?_, ?_, ?_, ?_⟩
        · rw [List.length_map, List.length_map]
          exact Nat.lt_of_le_of_lt (show cs.length ≤ 100 by omega) (by decide)
        · intro x u e1 e2 e3
          have e4 := (hF3.trans hF4) x u e1 e2 e3
          have e5 : x ≠ D := by
            rintro rfl
            have e6 := (hF1.trans hF2) x u e1 e2 e3
            rw [hD] at e6
            cases e6
          rw [upd_ne e5]
          exact e4
        · rw [upd_same, List.map_append, List.map_append]
          rfl
        · rw [List.length_append, hcl]
          rfl
        · intro d hd
          rcases List.mem_append.mp hd with h | h
          · exact hc1 d h
          · rw [List.mem_singleton.mp h]; rfl
        · intro d hd
          rcases List.mem_append.mp hd with h | h
          · exact hc2 d h
          · rw [List.mem_singleton.mp h]; exact isT_get hT hcc
      · obtain ⟨hSp3, hF3, cs, hc, hcl, hc1, hc2⟩ := hp
        walk_at "rd"
        have hfl := flat_len hc1
        refine jn_0 (lst_of hc) (by omega) ?_
        have hfT := isT_flat hc2
        generalize cs.flatten = wd at hfl hfT
        walk_at "rd"
        refine m_SI (by omega) (by omega) (by rw [Int.toNat_natCast]; calc _ ≤ 4 * 100000 := Nat.mul_le_mul (by omega) hn
              _ ≤ 1000000 := by decide) ?_
        rw [Int.toNat_natCast]
        have hrl := repl_len n wd
        have hrT : isT (List.replicate n wd).flatten = true := isT_flat fun c hc => by rw [(List.mem_replicate.mp hc).2]; exact hfT
        have hrl1 : (List.replicate n wd).flatten.length ≤ 1000000 := by
          rw [hrl]
          calc _ ≤ 100000 * 10 := Nat.mul_le_mul hn (by omega)
            _ ≤ 1000000 := by decide
        have hrl2 : n ≤ (List.replicate n wd).flatten.length := by
          rw [hrl]
          exact Nat.le_mul_of_pos_right n (by omega)
        generalize (List.replicate n wd).flatten = rp at hrT hrl1 hrl2
        clear hrl
        walk_at "rd"
        rw [Int.toNat_natCast]
        have htl : (rp.take n).length = n := by rw [List.length_take]; omega
        have htT : isT (rp.take n) = true := isT_take n hrT
        generalize rp.take n = tx at htl htT
        refine ⟨s, g, n + 1, rfl, hSp3, by omega, by omega, fun r3 H4 h2 h3 hSp4 hF4 => ?_⟩
        walk_at "rd"
        refine ⟨s, g, sg.length, rfl, hSp4, by omega, by omega, fun r4 H5 h4 h5 hSp5 hF5 => ?_⟩
        walk_at "rd"
        refine ix_SS h4 h5 (by omega) fun c hcc => ?_
        walk_at "rd"
        refine q _ H5 ?_ ?_ hSp5 ((hF3.trans hF4).trans hF5)
        · simp only [List.length_append, List.length_take, List.length_drop, List.length_cons, List.length_nil]
          omega
        · refine isT_take _ ?_
          rw [isT_app, isT_app, isT_take _ htT, isT_get hT hcc, isT_drop _ htT]
          rfl
end
end My

set_option Elab.async false
set_option linter.all false
set_option maxRecDepth 100000
set_option maxHeartbeats 1000000
namespace My
open PySem PySem.Spec PyProof.Rows L2
local macro_rules | `(tactic| walk_at "len") => `(tactic| first | assumption | omega | decide | (simp only [List.length_append, List.length_take, List.length_drop, List.length_cons, List.length_nil, List.length_replicate]; omega))
local macro_rules | `(tactic| walk_at "side") => `(tactic| first | assumption | exact Nat.zero_le _ | decide | omega)
local macro_rules | `(tactic| walk_at "rd1") => `(tactic| first
  | with_reducible refine s_seq ?_
  | with_reducible refine x_gsub ?_
  | with_reducible refine s_asg ?_
  | ((with_reducible refine s_gn ?_); dsimp only [List.set])
  | ((with_reducible refine x_var (v := ?rdv) ?rdhv ?_); (case rdhv => rfl))
  | with_reducible refine x_c ?_
  | with_reducible refine x_op ?_
  | with_reducible refine x_cons ?_
  | with_reducible refine x_nil ?_
  | with_reducible refine x_cb ?_
  | with_reducible refine x_call ?_
  | with_reducible refine s_if ?_
  | with_reducible refine s_ret ?_
  | with_reducible refine s_retN ?_
  | with_reducible refine s_next ?_
  | with_reducible refine s_brk ?_
  | with_reducible refine s_cont ?_
  | with_reducible refine s_drop ?_
  | with_reducible refine s_par ?_
  | with_reducible refine s_par3 ?_
  | ((with_reducible refine s_p2 ?_); dsimp only [List.set])
  | ((with_reducible refine s_p3 ?_); dsimp only [List.set])
  | with_reducible refine f_r1 ?_
  | with_reducible refine f_r2 ?_
  | with_reducible refine f_l ?_
  | with_reducible refine f_t ?_
  | with_reducible refine f_s ?_
  | with_reducible refine c_r1 ?_
  | with_reducible refine c_r2 ?_
  | with_reducible refine c_l ?_
  | with_reducible refine c_t ?_
  | with_reducible refine c_s ?_
  | with_reducible refine x_tst ?_
  | with_reducible refine x_tru ?_
  | with_reducible refine x_truB ?_
  | with_reducible refine x_bl2 ?_
  | with_reducible refine x_int ?_
  | with_reducible refine x_str ?_
  | with_reducible refine x_not ?_
  | with_reducible refine x_and ?_
  | with_reducible refine x_or ?_
  | with_reducible refine x_andV ?_
  | with_reducible refine x_orV ?_
  | with_reducible refine x_notV ?_
  | with_reducible refine x_if ?_
  | with_reducible refine x_yes ?_
  | with_reducible refine x_un ?_
  | with_reducible refine x_tup ?_
  | with_reducible refine x_lst ?_
  | with_reducible refine x_callK ?_
  | with_reducible refine x_callK0 ?_
  | with_reducible refine x_bm ?_
  | with_reducible refine x_bm0 ?_
  | with_reducible refine x_tyS ?_
  | with_reducible refine x_sl ?_
  | with_reducible refine x_nopart ?_
  | with_reducible refine x_part ?_
  | with_reducible refine x_fmt0 ?_
  | with_reducible refine x_fmt ?_
  | with_reducible refine x_chain ?_
  | with_reducible refine a_ii ?_
  | ((with_reducible refine sl_to ?rda ?rdb ?_); (case rda => walk_at "len"); (case rdb => walk_at "len"))
  | ((with_reducible refine sl_from ?rda ?rdb ?_); (case rda => walk_at "len"); (case rdb => walk_at "len"))
  | ((with_reducible refine sl_mid ?rda ?rdb ?rdc ?_); (case rda => walk_at "len"); (case rdb => walk_at "len"); (case rdc => walk_at "len"))
  | ((with_reducible refine a_SS ?rda ?_); (case rda => walk_at "len"))
  | ((with_reducible refine ln_S ?rda ?_); (case rda => walk_at "len"))
  | with_reducible refine e_SS ?_
  | with_reducible refine ne_SS ?_
  | with_reducible refine s_ii ?_
  | ((with_reducible refine md_ii ?rdc ?_); (case rdc => first | decide | assumption | omega))
  | with_reducible refine n_i ?_
  | with_reducible refine e_ii ?_
  | with_reducible refine e_bb ?_
  | with_reducible refine ne_ii ?_
  | with_reducible refine ne_bb ?_
  | with_reducible refine lt_ii ?_
  | with_reducible refine lt_ss ?_
  | with_reducible refine le_ii ?_
  | with_reducible refine gt_ii ?_
  | with_reducible refine gt_ss ?_
  | with_reducible refine ge_ii ?_
  | with_reducible refine e_ss ?_
  | with_reducible refine ne_ss ?_
  | with_reducible refine is_N ?_
  | with_reducible refine is_T ?_
  | with_reducible refine is_B ?_
  | with_reducible refine isn_N ?_
  | with_reducible refine isn_T ?_
  | with_reducible refine isn_B ?_
  | with_reducible refine in_s ?_
  | with_reducible refine nin_s ?_
  | with_reducible refine i_i ?_
  | with_reducible refine i_b ?_
  | with_reducible refine ab_i ?_
  | with_reducible refine mx_ii ?_
  | with_reducible refine mn_ii ?_
  | with_reducible refine ty_N ?_
  | with_reducible refine ty_B ?_
  | with_reducible refine ty_I ?_
  | with_reducible refine ty_S ?_
  | with_reducible refine ma_s ?_
  | with_reducible refine mp_s ?_
  | with_reducible refine mdg_s ?_
  | with_reducible refine mf_s ?_
  | with_reducible refine iteT ?_
  | with_reducible refine iteF ?_
  | with_reducible refine iteNt ?_
  | with_reducible refine iteNf ?_
  | with_reducible refine iteTd (by decide) ?_
  | with_reducible refine iteFd (by decide) ?_
  | with_reducible refine iteNd (by decide) ?_
  | with_reducible refine iteNdF (by decide) ?_
  | ((with_reducible refine iteFd ?rdn ?_); (case rdn => (intro rdz; cases rdz; done)))
  | ((with_reducible refine iteNdF ?rdn ?_); (case rdn => (intro rdz; cases rdz; done))))
local macro_rules | `(tactic| walk_at "rd") => `(tactic| (repeat walk_at "rd1"))
section
variable {P : Program} {w : World} {K : PySem.W.Frag} {mg : Str → Option Value} {base : Heap}
/-! a drawn number -/
def sp__law_number (K : PySem.W.Frag) : Sp := fun vs H Q _ => ∃ (s g : Addr), vs = [.ref s] ∧ SprAt H s g ∧ ∀ (z : Nat) H', z < 1000000 → SprAt H' s g → Frm s g H H' → Q (.int z) H'
theorem ok__law_number (Y : Fx K mg) : FnOk P w K mg base CX0 2 Y.a__law_number Y.fd__law_number ["_law_spring_here"] (sp__law_number K) := by
  refine Y.F__law_number.ok sc__law_number (fun vs H Q E h => ?_) (fun cdv A outer st H vs Q E hr h => ?_)
  · obtain ⟨s, g, rfl, _⟩ := h
    rfl
  · obtain ⟨s, g, rfl, hSp, q⟩ := h
    refine ⟨_, b__law_number Y (ok__law_drop Y) hr, ?_⟩
    show t__law_number K _ _ [some (.ref s)] H
    unfold t__law_number
    walk_at "rd"
    refine ⟨s, g, 1000000, rfl, hSp, by decide, by decide, fun r1 H1 a0 a1 hSp1 hF1 => ?_⟩
    walk_at "rd"
    refine ⟨s, g, 100, rfl, hSp1, by decide, by decide, fun r2 H2 b0 b1 hSp2 hF2 => ?_⟩
    walk_at "rd"
    refine ⟨by show 8 ≤ sizeLine; decide, fun p hp => ?_⟩
    walk_at "rd"
    refine ⟨s, g, 8, rfl, hSp2.new hp, by decide, by decide, fun r3 H3 c0 c1 hSp3 hF3 => ?_⟩
    obtain ⟨o1, o2⟩ := hSp2.off hp
    have h3 := hF3 p _ o1 o2 upd_same
    refine ix_int (lst_of h3) (int_cons (n := 1000000) (by decide) (by decide) (int_cons (by decide) (by decide) (int_cons (by decide) (by decide) (int_cons (by decide) (by decide) (int_cons (by decide) (by decide) (int_cons (by decide) (by decide) (int_cons a0 a1 (int_cons b0 (by omega) int_nil)))))))) c0 c1 fun z hz => ?_
    refine q z H3 hz hSp3 ((hF1.trans hF2).trans ?_)
    intro x u e1 e2 e3
    exact hF3 x u e1 e2 (same_upd hp x u e3)
/-! a spoilt block -/
def sp__law_spoilt (K : PySem.W.Frag) : Sp := fun vs H Q _ => ∃ (s g : Addr) (l : List Nat), vs = [.ref s, .str (S l)] ∧ SprAt H s g ∧ l.length ≤ 10000 ∧ isT l = true ∧ ∀ l' H', l'.length ≤ 1000 → isT l' = true → SprAt H' s g → Frm s g H H' → Q (.str (S l')) H'
theorem ok__law_spoilt (Y : Fx K mg) : FnOk P w K mg base CX0 2 Y.a__law_spoilt Y.fd__law_spoilt ["_law_spring_here", "_law_block"] (sp__law_spoilt K) := by
  refine Y.F__law_spoilt.ok sc__law_spoilt (fun vs H Q E h => ?_) (fun cdv A outer st H vs Q E hr h => ?_)
  · obtain ⟨s, g, l, rfl, _⟩ := h
    rfl
  · obtain ⟨s, g, l, rfl, hSp, hl, hT, q⟩ := h
    refine ⟨_, b__law_spoilt Y (ok__law_drop Y) hr, ?_⟩
    show t__law_spoilt K _ _ [some (.ref s), some (.str (S l)), none, none, none, none] H
    unfold t__law_spoilt
    walk_at "rd"
    refine ⟨s, g, 20, rfl, hSp, by decide, by decide, fun r1 H1 a0 a1 hSp1 hF1 => ?_⟩
    walk_at "rd"
    refine ⟨s, g, 13, rfl, hSp1, by decide, by decide, fun r2 H2 b0 b1 hSp2 hF2 => ?_⟩
    rw [show (" 0+.-_aeE/:9x" : Str) = S [32, 48, 43, 46, 45, 95, 97, 101, 69, 47, 58, 57, 120] from rfl]
    refine ix_SS b0 b1 (by decide) fun c hcc => ?_
    have hc : isT [c] = true := isT_get (by decide) hcc
    walk_at "rd"
    refine ⟨by show 4 ≤ sizeLine; decide, fun p hp => ?_⟩
    walk_at "rd"
    rw [show (" " : Str) = S [32] from rfl]
    walk_at "rd"
    refine ⟨by show 6 ≤ sizeLine; decide, fun p2 hp2 => ?_⟩
    refine a_ll (by rw [upd_ne (Ne.symm (ne_new upd_same hp2))]; exact upd_same) upd_same (by show 10 ≤ sizeLine; decide) fun p3 hp3 => ?_
    walk_at "rd"
    obtain ⟨o1, o2⟩ := ((hSp2.new hp).new hp2).off hp3
    refine ⟨s, g, 10, rfl, ((hSp2.new hp).new hp2).new hp3, by decide, by decide, fun r3 H3 c0 c1 hSp4 hF4 => ?_⟩
    have h3 := hF4 p3 _ o1 o2 upd_same
    have t1 := fun n => isT_take n hT
    have t2 := fun n => isT_drop n hT
    have t3 : isT [32] = true := by decide
    refine ix_txt (n := 20002) (lst_of h3) (txt_app (txt_cons ?_ ?_ (txt_cons ?_ ?_ (txt_cons ?_ ?_ (txt_cons ?_ ?_ txt_nil)))) (txt_cons ?_ ?_ (txt_cons ?_ ?_ (txt_cons ?_ ?_ (txt_cons ?_ ?_ (txt_cons ?_ ?_ (txt_cons ?_ ?_ txt_nil))))))) c0 c1 fun l' hl' hT' => ?_
    all_goals first
      | (simp only [isT_app, t1, t2, t3, hc, hT, Bool.and_self]; done)
      | (walk_at "len"; done)
      | skip
    walk_at "rd"
    refine q _ H3 ?_ (isT_take _ hT') hSp4 (((((hF1.trans hF2).new hp).new hp2).new hp3).trans hF4)
    rw [List.length_take]
    exact Nat.min_le_left _ _
end
end My

set_option Elab.async false
set_option linter.all false
set_option maxRecDepth 100000
set_option maxHeartbeats 1000000
namespace My
open PySem PySem.Spec PyProof.Rows L2
local macro_rules | `(tactic| walk_at "len") => `(tactic| first | assumption | omega | decide | (simp only [List.length_append, List.length_take, List.length_drop, List.length_cons, List.length_nil, List.length_replicate]; omega))
local macro_rules | `(tactic| walk_at "side") => `(tactic| first | assumption | exact Nat.zero_le _ | decide | omega)
local macro_rules | `(tactic| walk_at "rd1") => `(tactic| first
  | with_reducible refine s_seq ?_
  | with_reducible refine x_gsub ?_
  | with_reducible refine s_asg ?_
  | ((with_reducible refine s_gn ?_); dsimp only [List.set])
  | ((with_reducible refine x_var (v := ?rdv) ?rdhv ?_); (case rdhv => rfl))
  | with_reducible refine x_c ?_
  | with_reducible refine x_op ?_
  | with_reducible refine x_cons ?_
  | with_reducible refine x_nil ?_
  | with_reducible refine x_cb ?_
  | with_reducible refine x_call ?_
  | with_reducible refine s_if ?_
  | with_reducible refine s_ret ?_
  | with_reducible refine s_retN ?_
  | with_reducible refine s_next ?_
  | with_reducible refine s_brk ?_
  | with_reducible refine s_cont ?_
  | with_reducible refine s_drop ?_
  | with_reducible refine s_par ?_
  | with_reducible refine s_par3 ?_
  | ((with_reducible refine s_p2 ?_); dsimp only [List.set])
  | ((with_reducible refine s_p3 ?_); dsimp only [List.set])
  | with_reducible refine f_r1 ?_
  | with_reducible refine f_r2 ?_
  | with_reducible refine f_l ?_
  | with_reducible refine f_t ?_
  | with_reducible refine f_s ?_
  | with_reducible refine c_r1 ?_
  | with_reducible refine c_r2 ?_
  | with_reducible refine c_l ?_
  | with_reducible refine c_t ?_
  | with_reducible refine c_s ?_
  | with_reducible refine x_tst ?_
  | with_reducible refine x_tru ?_
  | with_reducible refine x_truB ?_
  | with_reducible refine x_bl2 ?_
  | with_reducible refine x_int ?_
  | with_reducible refine x_str ?_
  | with_reducible refine x_not ?_
  | with_reducible refine x_and ?_
  | with_reducible refine x_or ?_
  | with_reducible refine x_andV ?_
  | with_reducible refine x_orV ?_
  | with_reducible refine x_notV ?_
  | with_reducible refine x_if ?_
  | with_reducible refine x_yes ?_
  | with_reducible refine x_un ?_
  | with_reducible refine x_tup ?_
  | with_reducible refine x_lst ?_
  | with_reducible refine x_callK ?_
  | with_reducible refine x_callK0 ?_
  | with_reducible refine x_bm ?_
  | with_reducible refine x_bm0 ?_
  | with_reducible refine x_tyS ?_
  | with_reducible refine x_sl ?_
  | with_reducible refine x_nopart ?_
  | with_reducible refine x_part ?_
  | with_reducible refine x_fmt0 ?_
  | with_reducible refine x_fmt ?_
  | with_reducible refine x_chain ?_
  | with_reducible refine a_ii ?_
  | ((with_reducible refine sl_to ?rda ?rdb ?_); (case rda => walk_at "len"); (case rdb => walk_at "len"))
  | ((with_reducible refine sl_from ?rda ?rdb ?_); (case rda => walk_at "len"); (case rdb => walk_at "len"))
  | ((with_reducible refine sl_mid ?rda ?rdb ?rdc ?_); (case rda => walk_at "len"); (case rdb => walk_at "len"); (case rdc => walk_at "len"))
  | ((with_reducible refine a_SS ?rda ?_); (case rda => walk_at "len"))
  | ((with_reducible refine ln_S ?rda ?_); (case rda => walk_at "len"))
  | with_reducible refine e_SS ?_
  | with_reducible refine ne_SS ?_
  | with_reducible refine s_ii ?_
  | ((with_reducible refine md_ii ?rdc ?_); (case rdc => first | decide | assumption | omega))
  | with_reducible refine n_i ?_
  | with_reducible refine e_ii ?_
  | with_reducible refine e_bb ?_
  | with_reducible refine ne_ii ?_
  | with_reducible refine ne_bb ?_
  | with_reducible refine lt_ii ?_
  | with_reducible refine lt_ss ?_
  | with_reducible refine le_ii ?_
  | with_reducible refine gt_ii ?_
  | with_reducible refine gt_ss ?_
  | with_reducible refine ge_ii ?_
  | with_reducible refine e_ss ?_
  | with_reducible refine ne_ss ?_
  | with_reducible refine is_N ?_
  | with_reducible refine is_T ?_
  | with_reducible refine is_B ?_
  | with_reducible refine isn_N ?_
  | with_reducible refine isn_T ?_
  | with_reducible refine isn_B ?_
  | with_reducible refine in_s ?_
  | with_reducible refine nin_s ?_
  | with_reducible refine i_i ?_
  | with_reducible refine i_b ?_
  | with_reducible refine ab_i ?_
  | with_reducible refine mx_ii ?_
  | with_reducible refine mn_ii ?_
  | with_reducible refine ty_N ?_
  | with_reducible refine ty_B ?_
  | with_reducible refine ty_I ?_
  | with_reducible refine ty_S ?_
  | with_reducible refine ma_s ?_
  | with_reducible refine mp_s ?_
  | with_reducible refine mdg_s ?_
  | with_reducible refine mf_s ?_
  | with_reducible refine iteT ?_
  | with_reducible refine iteF ?_
  | with_reducible refine iteNt ?_
  | with_reducible refine iteNf ?_
  | with_reducible refine iteTd (by decide) ?_
  | with_reducible refine iteFd (by decide) ?_
  | with_reducible refine iteNd (by decide) ?_
  | with_reducible refine iteNdF (by decide) ?_
  | ((with_reducible refine iteFd ?rdn ?_); (case rdn => (intro rdz; cases rdz; done)))
  | ((with_reducible refine iteNdF ?rdn ?_); (case rdn => (intro rdz; cases rdz; done))))
local macro_rules | `(tactic| walk_at "rd") => `(tactic| (repeat walk_at "rd1"))
section
variable {P : Program} {w : World} {K : PySem.W.Frag} {mg : Str → Option Value} {base : Heap}
/-! the law's own judge of two values that are alike -/
def isBo : PyData → Bool | .bool _ => true | _ => false
def isIn : PyData → Bool | .bool _ => true | .int _ => true | _ => false
def isSt : PyData → Bool | .str _ => true | _ => false
def isTu : PyData → Bool | .tuple _ => true | _ => false
def isLi : PyData → Bool | .list _ => true | _ => false
def isNo : PyData → Bool | .none => true | _ => false
def kinds6 (d : PyData) : List Bool := [isBo d, isIn d, isSt d] ++ [isTu d, isLi d, isNo d]
theorem kit_bo {H : Hp} {x : V} {d : PyData} (h : Dp K H x d) : kitB (tyName d) "bool" = some (isBo d) := by cases h <;> first | rfl | decide +kernel
theorem kit_in {H : Hp} {x : V} {d : PyData} (h : Dp K H x d) : kitB (tyName d) "int" = some (isIn d) := by cases h <;> first | rfl | decide +kernel
theorem kit_st {H : Hp} {x : V} {d : PyData} (h : Dp K H x d) : kitB (tyName d) "str" = some (isSt d) := by cases h <;> first | rfl | decide +kernel
theorem kit_tu {H : Hp} {x : V} {d : PyData} (h : Dp K H x d) : kitB (tyName d) "tuple" = some (isTu d) := by cases h <;> first | rfl | decide +kernel
theorem kit_li {H : Hp} {x : V} {d : PyData} (h : Dp K H x d) : kitB (tyName d) "list" = some (isLi d) := by cases h <;> first | rfl | decide +kernel
theorem non_d {H : Hp} {x : V} {d : PyData} (h : Dp K H x d) : decide (x = .non) = isNo d := by cases h <;> rfl
def sp__law_kinds (K : PySem.W.Frag) : Sp := fun vs H Q _ => ∃ (x : V) (d : PyData), vs = [x] ∧ Dp K H x d ∧ ∀ p H', Same H H' → H' p = some (.lst ((kinds6 d).map V.bl)) → Q (.ref p) H'
theorem ok__law_kinds (Y : Fx K mg) : FnOk P w K mg base CX0 1 Y.a__law_kinds Y.fd__law_kinds ["_law_thing"] (sp__law_kinds K) := by
  refine Y.F__law_kinds.ok sc__law_kinds (fun vs H Q E h => ?_) (fun cdv A outer st H vs Q E hr h => ?_)
  · obtain ⟨x, d, rfl, _⟩ := h
    rfl
  · obtain ⟨x, d, rfl, hd, q⟩ := h
    refine ⟨_, b__law_kinds Y hr, ?_⟩
    show t__law_kinds K _ [some x, none] H
    unfold t__law_kinds
    walk_at "rd"
    refine isi_d hd (kit_bo hd) ?_
    walk_at "rd"
    refine isi_d hd (kit_in hd) ?_
    walk_at "rd"
    refine isi_d hd (kit_st hd) ?_
    walk_at "rd"
    refine ⟨by show 3 ≤ sizeLine; decide, fun p hp => ?_⟩
    have hd2 := dp_mono (same_upd (o := .lst [V.bl (isBo d), V.bl (isIn d), V.bl (isSt d)]) hp) d x hd
    walk_at "rd"
    refine isi_d hd2 (kit_tu hd2) ?_
    walk_at "rd"
    refine isi_d hd2 (kit_li hd2) ?_
    walk_at "rd"
    rw [non_d hd2]
    refine ⟨by show 3 ≤ sizeLine; decide, fun p2 hp2 => ?_⟩
    refine a_ll (by rw [upd_ne (Ne.symm (ne_new upd_same hp2))]; exact upd_same) upd_same (by show 6 ≤ sizeLine; decide) fun p3 hp3 => ?_
    exact q p3 _ (same_new (same_new (same_upd hp) hp2) hp3) upd_same
theorem dp_kinds {H : Hp} {p : Addr} {d : PyData} (h : H p = some (.lst ((kinds6 d).map V.bl))) : Dp K H (.ref p) (.list ((kinds6 d).map PyData.bool)) := dp_bools _ (lst_of h)
theorem shaped_kinds (d : PyData) : SeqAt.shaped (.list ((kinds6 d).map PyData.bool)) = true := by
  have h : ∀ a b c e f g : Bool, SeqAt.shaped (.list (([a, b, c] ++ [e, f, g]).map PyData.bool)) = true := by decide
  exact h _ _ _ _ _ _
def Up (F : PyData → Prop) : PyData → Prop
  | .list ds => ds.length ≤ 100000 ∧ ∀ e ∈ ds, F e
  | .tuple ds => ds.length ≤ 100000 ∧ ∀ e ∈ ds, F e
  | d => SeqAt.shaped d = true
def Fine : Nat → PyData → Prop
  | 0 => Up fun _ => False
  | n + 1 => Up (Fine n)
def spA (F : PyData → Prop) (K : PySem.W.Frag) : Sp := fun vs H Q _ => ∃ (x y : V) (d : PyData), vs = [x, y] ∧ Dp K H x d ∧ Dp K H y d ∧ F d ∧ ∀ H', Same H H' → Q (.bl true) H'
def SqX (K : PySem.W.Frag) (H : Hp) (p : Addr) (xs : List V) : Prop := SqL K H p xs ∨ SqT K H p xs
theorem SqX.mono {H H' : Hp} {p : Addr} {xs : List V} (e : Same H H') (h : SqX K H p xs) : SqX K H' p xs := h.elim (fun h => .inl (e.seq h)) fun h => .inr (same_sqt e h)
theorem ix_X {H : Hp} {Q : VK} {p : Addr} {xs : List V} {i : Int} {v : V} (h : SqX K H p xs) (ha : atI xs i = some v) (q : Q v H) : rIX K (.ref p) (.int i) H Q := h.elim (fun h => ix_L h ha q) fun h => ix_T h ha q
theorem ln_X {H : Hp} {Q : VK} {p : Addr} {xs : List V} (h : SqX K H p xs) (q : Q (.int xs.length) H) : rLEN K [.ref p] H Q := h.elim (fun h => ln_l h q) fun h => ln_t h q
theorem alike_step (Y : Fx K mg) {n : Nat} (hn : 1 ≤ n) (F : PyData → Prop) (G : FnOk P w K mg base CX0 n Y.a__law_alike Y.fd__law_alike ["_law_found", "_law_due"] (spA F K)) :
    FnOk P w K mg base CX0 (n + 1) Y.a__law_alike Y.fd__law_alike ["_law_found", "_law_due"] (spA (Up F) K) := by
  refine Y.F__law_alike.ok sc__law_alike (fun vs H Q E h => ?_) (fun cdv A outer st H vs Q E hr h => ?_)
  · obtain ⟨x, y, d, rfl, _⟩ := h
    rfl
  · obtain ⟨x, y, d, rfl, hx, hy, hF, q⟩ := h
    refine ⟨_, b__law_alike Y G (ok__law_kinds Y) hn hr, ?_⟩
    show t__law_alike K _ _ _ [some x, some y, none] H
    unfold t__law_alike
    walk_at "rd"
    refine ⟨x, d, rfl, hx, fun p1 H1 hS1 h1 => ?_⟩
    walk_at "rd"
    refine ⟨y, d, rfl, dp_mono hS1 d y hy, fun p2 H2 hS2 h2 => ?_⟩
    refine ne_d (dp_kinds (hS2 _ _ h1)) (dp_kinds h2) (shaped_kinds d) (shaped_kinds d) ?_
    rw [eqv_same (shaped_kinds d)]
    walk_at "rd"
    refine ⟨by show 2 ≤ sizeLine; decide, fun p3 hp3 => ?_⟩
    walk_at "rd"
    have hS3 := same_new (hS1.trans hS2) hp3 (o := .tup [V.ty "tuple", V.ty "list"])
    have hx3 := dp_mono hS3 d x hx
    have hy3 := dp_mono hS3 d y hy
    refine isi_d2 hy3 upd_same (kit_tu hy3) (kit_li hy3) rfl ?_
    generalize upd H2 p3 (.tup [V.ty "tuple", V.ty "list"]) = H3 at hS3 hx3 hy3
    have seq : ∀ (ds : List PyData) (px py : Addr) (vx vy : List V), ds.length ≤ 100000 → (∀ e ∈ ds, F e) → SqX K H3 px vx → SqX K H3 py vy → DpAll K H3 vx ds → DpAll K H3 vy ds → x = .ref px → y = .ref py →
        tRet (tAndV (tOp (rEQ K) (tCB (rLEN K) (tCons (tVar 0) tNil)) (tCB (rLEN K) (tCons (tVar 1) tNil))) (tCB (rAll K) (tCons (tLc (iRng1 (tCons (tCB (rLEN K) (tCons (tVar 1) tNil)) tNil)) (gName 2) tYes (tCall (spA F K) [] E0 (tCons (tOp (rIX K) (tVar 0) (tVar 2)) (tCons (tOp (rIX K) (tVar 1) (tVar 2)) tNil))) [2]) tNil)))
          { nx := tRet (tOp (rEQ K) (tVar 0) (tVar 1)) { nx := fun _ H' => Q .non H', rt := Q }, rt := Q } [some x, some y, none] H3 := by
      rintro ds px py vx vy hl hFe hsx hsy hax hay rfl rfl
      have lx := dpAll_len hax
      have ly := dpAll_len hay
      walk_at "rd"
      refine ln_X hsx ?_
      walk_at "rd"
      refine ln_X hsy ?_
      rw [lx, ly]
      walk_at "rd"
      refine iteTd rfl ?_
      walk_at "rd"
      refine ln_X hsy ?_
      walk_at "rd"
      rw [ly]
      refine lcR1_mk (by omega) (by omega) (fun D i H' => Same H3 H' ∧ H' D = some (.lst ((List.replicate i true).map V.bl))) (fun D hD => ⟨same_upd hD, upd_same⟩) (fun D i H' hD hi hp => ?_) (fun D H' hD hp => ?_)
      · obtain ⟨hs, hd⟩ := hp
        rw [Int.toNat_natCast] at hi
        obtain ⟨v1, e1, d1⟩ := dpAll_get hax hi
        obtain ⟨v2, e2, d2⟩ := dpAll_get hay hi
        refine ⟨rfl, ?_⟩
        walk_at "rd"
        refine ix_X (hsx.mono hs) (atI_nat e1) ?_
        walk_at "rd"
        refine ix_X (hsy.mono hs) (atI_nat e2) ?_
        walk_at "rd"
        refine ⟨v1, v2, ds[i], rfl, dp_mono hs _ _ d1, dp_mono hs _ _ d2, hFe _ (List.getElem_mem hi), fun H4 hS4 => ?_⟩
        refine ⟨_, hS4 _ _ hd, ?_, same_mut (hs.trans hS4) hD, ?_⟩
        · rw [List.length_map, List.length_replicate]
          exact Nat.lt_of_le_of_lt (show i ≤ 100000 by omega) (by decide)
        · rw [upd_same, List.replicate_succ', List.map_append]
          rfl
      · obtain ⟨hs, hd⟩ := hp
        walk_at "rd"
        refine al_b (lst_of hd) ?_
        rw [show (List.replicate (Int.toNat ds.length) true).all id = true by simp]
        exact q H' (hS3.trans hs)
    have flat : SeqAt.shaped d = true → isTu d = false → isLi d = false →
        if (isTu d || isLi d) = true then
        tRet (tAndV (tOp (rEQ K) (tCB (rLEN K) (tCons (tVar 0) tNil)) (tCB (rLEN K) (tCons (tVar 1) tNil))) (tCB (rAll K) (tCons (tLc (iRng1 (tCons (tCB (rLEN K) (tCons (tVar 1) tNil)) tNil)) (gName 2) tYes (tCall (spA F K) [] E0 (tCons (tOp (rIX K) (tVar 0) (tVar 2)) (tCons (tOp (rIX K) (tVar 1) (tVar 2)) tNil))) [2]) tNil)))
          { nx := tRet (tOp (rEQ K) (tVar 0) (tVar 1)) { nx := fun _ H' => Q .non H', rt := Q }, rt := Q } [some x, some y, none] H3
        else tNext { nx := tRet (tOp (rEQ K) (tVar 0) (tVar 1)) { nx := fun _ H' => Q .non H', rt := Q }, rt := Q } [some x, some y, none] H3 := by
      intro hsh e1 e2
      rw [e1, e2]
      show if false = true then _ else tNext _ _ _
      walk_at "rd"
      refine e_d hx3 hy3 hsh hsh ?_
      rw [eqv_same hsh]
      exact q H3 hS3
    refine x_truB ?_
    cases hx3 with
    | non => exact flat hF rfl rfl
    | bl b => exact flat hF rfl rfl
    | int i => exact flat hF rfl rfl
    | str z => exact flat hF rfl rfl
    | lst hs ha =>
      cases hy3 with
      | lst hs' ha' => exact iteT (seq _ _ _ _ _ hF.1 hF.2 (.inl hs) (.inl hs') ha ha' rfl rfl)
    | tup hs ha =>
      cases hy3 with
      | tup hs' ha' => exact iteT (seq _ _ _ _ _ hF.1 hF.2 (.inr hs) (.inr hs') ha ha' rfl rfl)
theorem ok__law_alike (Y : Fx K mg) : ∀ n : Nat, FnOk P w K mg base CX0 (n + 2) Y.a__law_alike Y.fd__law_alike ["_law_found", "_law_due"] (spA (Fine n) K)
  | 0 => alike_step Y (Nat.le_refl 1) (fun _ => False) ⟨fun vs H Q E h => by obtain ⟨x, y, d, rfl, _⟩ := h; rfl, fun A outer s H args us vs Q E hr he hb hv hs => by obtain ⟨x, y, d, rfl, _, _, z, _⟩ := hs; exact z.elim⟩
  | n + 1 => alike_step Y (by omega) (Fine n) (ok__law_alike Y n)
end
end My

set_option Elab.async false
set_option linter.all false
set_option maxRecDepth 100000
set_option maxHeartbeats 1000000
namespace My
open PySem PySem.Spec PyProof.Rows L2
local macro_rules | `(tactic| walk_at "len") => `(tactic| first | assumption | omega | decide | (simp only [List.length_append, List.length_take, List.length_drop, List.length_cons, List.length_nil, List.length_replicate]; omega))
local macro_rules | `(tactic| walk_at "side") => `(tactic| first | assumption | exact Nat.zero_le _ | decide | omega)
local macro_rules | `(tactic| walk_at "rd1") => `(tactic| first
  | with_reducible refine s_seq ?_
  | with_reducible refine x_gsub ?_
  | with_reducible refine s_asg ?_
  | ((with_reducible refine s_gn ?_); dsimp only [List.set])
  | ((with_reducible refine x_var (v := ?rdv) ?rdhv ?_); (case rdhv => rfl))
  | with_reducible refine x_c ?_
  | with_reducible refine x_op ?_
  | with_reducible refine x_cons ?_
  | with_reducible refine x_nil ?_
  | with_reducible refine x_cb ?_
  | with_reducible refine x_call ?_
  | with_reducible refine s_if ?_
  | with_reducible refine s_ret ?_
  | with_reducible refine s_retN ?_
  | with_reducible refine s_next ?_
  | with_reducible refine s_brk ?_
  | with_reducible refine s_cont ?_
  | with_reducible refine s_drop ?_
  | with_reducible refine s_par ?_
  | with_reducible refine s_par3 ?_
  | ((with_reducible refine s_p2 ?_); dsimp only [List.set])
  | ((with_reducible refine s_p3 ?_); dsimp only [List.set])
  | with_reducible refine f_r1 ?_
  | with_reducible refine f_r2 ?_
  | with_reducible refine f_l ?_
  | with_reducible refine f_t ?_
  | with_reducible refine f_s ?_
  | with_reducible refine c_r1 ?_
  | with_reducible refine c_r2 ?_
  | with_reducible refine c_l ?_
  | with_reducible refine c_t ?_
  | with_reducible refine c_s ?_
  | with_reducible refine x_tst ?_
  | with_reducible refine x_tru ?_
  | with_reducible refine x_truB ?_
  | with_reducible refine x_bl2 ?_
  | with_reducible refine x_int ?_
  | with_reducible refine x_str ?_
  | with_reducible refine x_not ?_
  | with_reducible refine x_and ?_
  | with_reducible refine x_or ?_
  | with_reducible refine x_andV ?_
  | with_reducible refine x_orV ?_
  | with_reducible refine x_notV ?_
  | with_reducible refine x_if ?_
  | with_reducible refine x_yes ?_
  | with_reducible refine x_un ?_
  | with_reducible refine x_tup ?_
  | with_reducible refine x_lst ?_
  | with_reducible refine x_callK ?_
  | with_reducible refine x_callK0 ?_
  | with_reducible refine x_bm ?_
  | with_reducible refine x_bm0 ?_
  | with_reducible refine x_tyS ?_
  | with_reducible refine x_sl ?_
  | with_reducible refine x_nopart ?_
  | with_reducible refine x_part ?_
  | with_reducible refine x_fmt0 ?_
  | with_reducible refine x_fmt ?_
  | with_reducible refine x_chain ?_
  | with_reducible refine a_ii ?_
  | ((with_reducible refine sl_to ?rda ?rdb ?_); (case rda => walk_at "len"); (case rdb => walk_at "len"))
  | ((with_reducible refine sl_from ?rda ?rdb ?_); (case rda => walk_at "len"); (case rdb => walk_at "len"))
  | ((with_reducible refine sl_mid ?rda ?rdb ?rdc ?_); (case rda => walk_at "len"); (case rdb => walk_at "len"); (case rdc => walk_at "len"))
  | ((with_reducible refine a_SS ?rda ?_); (case rda => walk_at "len"))
  | ((with_reducible refine ln_S ?rda ?_); (case rda => walk_at "len"))
  | with_reducible refine e_SS ?_
  | with_reducible refine ne_SS ?_
  | with_reducible refine s_ii ?_
  | ((with_reducible refine md_ii ?rdc ?_); (case rdc => first | decide | assumption | omega))
  | with_reducible refine n_i ?_
  | with_reducible refine e_ii ?_
  | with_reducible refine e_bb ?_
  | with_reducible refine ne_ii ?_
  | with_reducible refine ne_bb ?_
  | with_reducible refine lt_ii ?_
  | with_reducible refine lt_ss ?_
  | with_reducible refine le_ii ?_
  | with_reducible refine gt_ii ?_
  | with_reducible refine gt_ss ?_
  | with_reducible refine ge_ii ?_
  | with_reducible refine e_ss ?_
  | with_reducible refine ne_ss ?_
  | with_reducible refine is_N ?_
  | with_reducible refine is_T ?_
  | with_reducible refine is_B ?_
  | with_reducible refine isn_N ?_
  | with_reducible refine isn_T ?_
  | with_reducible refine isn_B ?_
  | with_reducible refine in_s ?_
  | with_reducible refine nin_s ?_
  | with_reducible refine i_i ?_
  | with_reducible refine i_b ?_
  | with_reducible refine ab_i ?_
  | with_reducible refine mx_ii ?_
  | with_reducible refine mn_ii ?_
  | with_reducible refine ty_N ?_
  | with_reducible refine ty_B ?_
  | with_reducible refine ty_I ?_
  | with_reducible refine ty_S ?_
  | with_reducible refine ma_s ?_
  | with_reducible refine mp_s ?_
  | with_reducible refine mdg_s ?_
  | with_reducible refine mf_s ?_
  | with_reducible refine iteT ?_
  | with_reducible refine iteF ?_
  | with_reducible refine iteNt ?_
  | with_reducible refine iteNf ?_
  | with_reducible refine iteTd (by decide) ?_
  | with_reducible refine iteFd (by decide) ?_
  | with_reducible refine iteNd (by decide) ?_
  | with_reducible refine iteNdF (by decide) ?_
  | ((with_reducible refine iteFd ?rdn ?_); (case rdn => (intro rdz; cases rdz; done)))
  | ((with_reducible refine iteNdF ?rdn ?_); (case rdn => (intro rdz; cases rdz; done))))
local macro_rules | `(tactic| walk_at "rd") => `(tactic| (repeat walk_at "rd1"))
section
variable {P : Program} {w : World} {K : PySem.W.Frag} {mg : Str → Option Value} {base : Heap}
theorem figs_cons : ∀ (j z : Nat), figs (j + 1) z = (48 + z / 10 ^ j % 10) :: figs j z
  | 0, z => by
    show [] ++ [48 + z % 10] = [48 + z / 10 ^ 0 % 10]
    rw [Nat.pow_zero, Nat.div_one]
    rfl
  | j + 1, z => by
    rw [figs, figs_cons j (z / 10), Nat.div_div_eq_div_mul, show 10 * 10 ^ j = 10 ^ (j + 1) by rw [Nat.pow_succ, Nat.mul_comm]]
    rfl
theorem fig_get {k c : Nat} (h : k < 10) (hc : [48, 49, 50, 51, 52, 53, 54, 55, 56, 57][k]? = some c) : c = 48 + k := by
  have h2 : ∀ k : _root_.Fin 10, [48, 49, 50, 51, 52, 53, 54, 55, 56, 57][k.val]? = some (48 + k.val) := by decide
  have e := h2 ⟨k, h⟩
  rw [hc] at e
  exact Option.some.inj e
/-! written -/
def wr (c : List Nat) : List Nat → List Nat
  | [] => c
  | z :: zs => figs 6 z ++ wr c zs
theorem wr_len (c : List Nat) : ∀ zs, (wr c zs).length = 6 * zs.length + c.length
  | [] => by simp [wr]
  | z :: zs => by rw [wr, List.length_append, figs_len, wr_len c zs, List.length_cons]; omega
def sp__law_written (K : PySem.W.Frag) : Sp := fun vs H Q _ => ∃ (a n w : Nat) (m : Bool) (l : List Nat), vs = [.int a, .int n, .int w, .bl m, .str (S l)] ∧ a < 1000000 ∧ n < 1000000 ∧ w < 1000000 ∧ l.length ≤ 100000 ∧ ∀ H', Same H H' → Q (.str (S (pieceL a n w m l))) H'
theorem ok__law_written (Y : Fx K mg) : FnOk P w K mg base CX0 1 Y.a__law_written Y.fd__law_written ["_law_age", "_law_number_here", "_law_writer", "_law_more", "_law_part"] (sp__law_written K) := by
  refine Y.F__law_written.ok sc__law_written (fun vs H Q E h => ?_) (fun cdv A outer st H vs Q E hr h => ?_)
  · obtain ⟨a, n, w, m, l, rfl, _⟩ := h
    rfl
  · obtain ⟨a, n, w, m, l, rfl, ha, hn, hw, hl, q⟩ := h
    refine ⟨_, b__law_written Y hr, ?_⟩
    show t__law_written K _ [some (.int a), some (.int n), some (.int w), some (.bl m), some (.str (S l)), none, none, none, none] H
    unfold t__law_written
    refine s_cut (fun σ' H' => σ' = [some (.int a), some (.int n), some (.int w), some (.bl m), some (.str (S l)), some (.str (S [if m then 43 else 46])), none, none, none] ∧ H' = H) ?_ ?_
    · walk_at "rd"
      cases m
      · walk_at "rd"
        exact ⟨rfl, rfl⟩
      · walk_at "rd"
        exact ⟨rfl, rfl⟩
    · rintro σ' H1 ⟨rfl, rfl⟩
      generalize hc : [if m = true then 43 else 46] = c
      have hcl : c.length = 1 := by rw [← hc]; rfl
      walk_at "rd"
      refine ⟨by show 3 ≤ sizeLine; decide, fun p hp => ?_⟩
      refine forL_mk (xs := [V.int w, V.int n, V.int a]) (lst_of upd_same) (fun i σ H' => ∃ y6 y7 y8, σ = [some (.int a), some (.int n), some (.int w), some (.bl m), some (.str (S l)), some (.str (S (wr c (([w, n, a].take i).reverse)))), y6, y7, y8] ∧ H' = upd H1 p (.lst [V.int w, V.int n, V.int a])) ⟨none, none, none, rfl, rfl⟩ (fun i σ H' _ hp => by obtain ⟨_, _, _, _, rfl⟩ := hp; exact lst_of upd_same) (fun i x σ H' hx hp => ?_) (fun σ H' hp => ?_)
      · obtain ⟨y6, y7, y8, rfl, rfl⟩ := hp
        obtain ⟨z, hz, rfl⟩ : ∃ z : Nat, [w, n, a][i]? = some z ∧ x = .int z := by
          have hx' : ([w, n, a].map fun k : Nat => V.int k)[i]? = some x := hx
          rw [List.getElem?_map] at hx'
          cases e : [w, n, a][i]? with
          | none => rw [e] at hx'; cases hx'
          | some z =>
            rw [e] at hx'
            exact ⟨z, rfl, (Option.some.inj hx').symm⟩
        have hi : i < 3 := (List.getElem?_eq_some_iff.mp hz).1
        have htk : ([w, n, a].take (i + 1)).reverse = z :: ([w, n, a].take i).reverse := by
          rw [List.take_add_one, hz, List.reverse_append]
          rfl
        rw [htk]
        generalize ht : wr c (([w, n, a].take i).reverse) = t
        have htl : t.length ≤ 100 := by
          rw [← ht, wr_len, List.length_reverse, List.length_take]
          omega
        walk_at "rd"
        refine for1_mk (by decide) (by decide) (fun j σ H' => ∃ y8, σ = [some (.int a), some (.int n), some (.int w), some (.bl m), some (.str (S l)), some (.str (S (figs j z ++ t))), some (.int z), some (.int ((z / 10 ^ j : Nat) : Int)), y8] ∧ H' = upd H1 p (.lst [V.int w, V.int n, V.int a])) ⟨y8, by simp [figs], rfl⟩ (fun j σ H' hj hp => ?_) (fun σ H' hp => ?_)
        · obtain ⟨y8', rfl, rfl⟩ := hp
          have hj6 : j < 6 := hj
          walk_at "rd"
          rw [lit_figs, show ((z / 10 ^ j : Nat) : Int) % 10 = ((z / 10 ^ j % 10 : Nat) : Int) by omega]
          have hlt : z / 10 ^ j % 10 < 10 := Nat.mod_lt _ (by decide)
          refine ix_SS (by omega) (by show (((z / 10 ^ j % 10 : Nat)) : Int) < 10; omega) (by decide) fun c' hc' => ?_
          rw [Int.toNat_natCast] at hc'
          have ec := fig_get hlt hc'
          subst ec
          have hfl := figs_len j z
          walk_at "rd"
          refine fd_ii ⟨by decide, by decide⟩ ?_
          walk_at "rd"
          refine ⟨some (.int (j : Int)), ?_, rfl⟩
          rw [show ((z / 10 ^ j : Nat) : Int) / 10 = ((z / 10 ^ (j + 1) : Nat) : Int) by rw [Nat.pow_succ, ← Nat.div_div_eq_div_mul]; omega, figs_cons]
          rfl
        · obtain ⟨y8', rfl, rfl⟩ := hp
          walk_at "rd"
          refine ⟨some (.int z), some (.int ((z / 10 ^ 6 : Nat) : Int)), y8', ?_, rfl⟩
          rw [wr, ht]
          rfl
      · obtain ⟨y6, y7, y8, rfl, rfl⟩ := hp
        have htl : (wr c (([w, n, a].take [V.int w, V.int n, V.int a].length).reverse)).length = 19 := by
          show (wr c [a, n, w]).length = 19
          rw [wr_len, hcl]
          rfl
        walk_at "rd"
        have e : pieceL a n w m l = wr c (([w, n, a].take [V.int w, V.int n, V.int a].length).reverse) ++ l := by
          show _ = wr c [a, n, w] ++ l
          unfold pieceL
          rw [pad_figs 6 a (by omega) (by decide), pad_figs 6 n (by omega) (by decide), pad_figs 6 w (by omega) (by decide), ← hc]
          simp [wr]
        rw [← e]
        exact q _ (same_upd hp)
/-! read -/
theorem numAt_yes {l : List Nat} {a k : Nat} (hk : k ≠ 0) (hl : a + k ≤ l.length) (hD : isD ((l.take (a + k)).drop a) = true) : numAt l a k = some (NumText.digitsVal ((l.take (a + k)).drop a)) := by
  unfold numAt
  rw [if_pos ⟨by rw [List.length_drop, List.length_take]; omega, hk, hD⟩]
theorem numAt_no {l : List Nat} {a k i c : Nat} (hi : a ≤ i) (hi2 : i < a + k) (hc : l[i]? = some c) (hD : ¬ (48 ≤ c ∧ c ≤ 57)) : numAt l a k = none := by
  unfold numAt
  rw [if_neg]
  rintro ⟨_, _, h⟩
  apply hD
  have hm : c ∈ (l.take (a + k)).drop a := by
    have e : ((l.take (a + k)).drop a)[i - a]? = some c := by
      rw [List.getElem?_drop, show a + (i - a) = i by omega, List.getElem?_take, if_pos hi2]
      exact hc
    exact List.mem_of_getElem? e
  have z := List.all_eq_true.mp h c hm
  rw [Bool.and_eq_true, decide_eq_true_eq, decide_eq_true_eq] at z
  exact z
theorem toldL_no {l : List Nat} {i c : Nat} (hi : i < 18) (hc : l[i]? = some c) (hD : ¬ (48 ≤ c ∧ c ≤ 57)) : toldL l = .none := by
  unfold toldL
  split
  · by_cases h1 : i < 6
    · rw [numAt_no (Nat.zero_le _) h1 hc hD]
    · by_cases h2 : i < 12
      · rw [numAt_no (show 6 ≤ i by omega) (show i < 6 + 6 by omega) hc hD]
        cases numAt l 0 6 <;> rfl
      · rw [numAt_no (show 12 ≤ i by omega) (show i < 12 + 6 by omega) hc hD]
        cases numAt l 0 6 <;> cases numAt l 6 6 <;> rfl
  · rfl
theorem isD_cut {l : List Nat} {n a b : Nat} (h : isD (l.take n) = true) (hb : b ≤ n) : isD ((l.take b).drop a) = true := List.all_eq_true.mpr fun c hc => by
  have h1 := List.mem_of_mem_drop hc
  have h2 : c ∈ l.take n := by
    have : l.take b = (l.take n).take b := by rw [List.take_take, Nat.min_eq_left hb]
    rw [this] at h1
    exact List.mem_of_mem_take h1
  exact List.all_eq_true.mp h c h2
/-- figures i from a on, up to b -/
def dv (l : List Nat) (a b i : Nat) : Int := NumText.digitsVal ((l.take (min i b)).drop a)
theorem dv_more {l : List Nat} {a b i c : Nat} (hc : l[i]? = some c) (ha : a ≤ i) (hb : i < b) (h48 : 48 ≤ c) : dv l a b (i + 1) = dv l a b i * 10 + ((c - 48 : Nat) : Int) := by
  unfold dv
  have hl : i < l.length := (List.getElem?_eq_some_iff.mp hc).1
  rw [Nat.min_eq_left (show i + 1 ≤ b by omega), Nat.min_eq_left (show i ≤ b by omega), List.take_add_one, hc, List.drop_append_of_le_length (by rw [List.length_take]; omega)]
  show ((NumText.digitsVal ((l.take i).drop a ++ [c]) : Nat) : Int) = _
  rw [digitsVal_snoc]
  omega
theorem dv_same {l : List Nat} {a b i : Nat} (h : b ≤ i ∨ i < a) : dv l a b (i + 1) = dv l a b i := by
  unfold dv
  rcases h with h | h
  · rw [Nat.min_eq_right (show b ≤ i + 1 by omega), Nat.min_eq_right h]
  · rw [List.drop_eq_nil_of_le (by rw [List.length_take]; omega), List.drop_eq_nil_of_le (by rw [List.length_take]; omega)]
def sp__law_read (K : PySem.W.Frag) : Sp := fun vs H Q _ => ∃ l : List Nat, vs = [.str (S l)] ∧ isT l = true ∧ l.length ≤ 100000 ∧ ∀ v H', Same H H' → Dp K H' v (toldL l) → Q v H'
theorem ok__law_read (Y : Fx K mg) : FnOk P w K mg base CX0 1 Y.a__law_read Y.fd__law_read ["_law_block"] (sp__law_read K) := by
  refine Y.F__law_read.ok sc__law_read (fun vs H Q E h => ?_) (fun cdv A outer st H vs Q E hr h => ?_)
  · obtain ⟨l, rfl, _⟩ := h
    rfl
  · obtain ⟨l, rfl, hT, hl, q⟩ := h
    refine ⟨_, b__law_read Y hr, ?_⟩
    show t__law_read K _ [some (.str (S l)), none, none, none] H
    unfold t__law_read
    walk_at "rd"
    refine ite2' (fun e => ?_) (fun e => ?_)
    · walk_at "rd"
      have h19 : ¬ 19 ≤ l.length := by have := of_decide_eq_true e; omega
      have e0 : toldL l = .none := if_neg (fun z => h19 z.1)
      rw [e0] at q
      exact q _ H (Same.refl H) .non
    · have h19 : 19 ≤ l.length := by have := of_decide_eq_false e; omega
      walk_at "rd"
      refine ix_SS (by decide) (by omega) (by omega) fun c18 hc => ?_
      have hc : l[18]? = some c18 := hc
      rw [show ("+." : Str) = S [43, 46] from rfl, ← S_one]
      walk_at "rd"
      rw [S_cps]
      refine ite2' (fun e => ?_) (fun e => ?_)
      · walk_at "rd"
        have hn : c18 ∉ [43, 46] := by
          rw [Bool.not_eq_true'] at e
          exact of_decide_eq_false e
        have e0 : toldL l = .none := if_neg (fun z => hn (by
          rw [hc] at z
          rcases z.2 with z | z
          · rw [Option.some.inj z]; decide
          · rw [Option.some.inj z]; decide))
        rw [e0] at q
        exact q _ H (Same.refl H) .non
      · have hs : l[18]? = some 43 ∨ l[18]? = some 46 := by
          rw [Bool.not_eq_false'] at e
          have := of_decide_eq_true e
          rw [hc]
          simp only [List.mem_cons, List.not_mem_nil, or_false] at this
          rcases this with z | z
          · exact .inl (congrArg some z)
          · exact .inr (congrArg some z)
        walk_at "rd"
        refine ⟨by show 3 ≤ sizeLine; decide, fun p hp => ?_⟩
        walk_at "rd"
        refine for1_mk (by decide) (by decide) (fun i σ H' => ∃ y2 y3, σ = [some (.str (S l)), some (.ref p), y2, y3] ∧ Same H H' ∧ H' p = some (.lst [.int (dv l 0 6 i), .int (dv l 6 12 i), .int (dv l 12 18 i)]) ∧ isD (l.take i) = true) ⟨none, none, rfl, same_upd hp, by rw [upd_same]; simp [dv]; rfl, by simp [isD]⟩ (fun i σ H1 hi hP => ?_) (fun σ H1 hP => ?_)
        · obtain ⟨y2, y3, rfl, hS, hH, hD⟩ := hP
          have hi18 : i < 18 := hi
          walk_at "rd"
          refine ix_SS (by omega) (by omega) (by omega) fun c hcc => ?_
          rw [Int.toNat_natCast] at hcc
          walk_at "rd"
          rw [lit_figs, find_fig]
          by_cases hf : 48 ≤ c ∧ c ≤ 57
          · rw [if_pos hf]
            refine ite2' (fun e => ?_) (fun e => ?_)
            · have := of_decide_eq_true e
              omega
            · walk_at "rd"
              refine fd_ii ⟨by decide, by decide⟩ ?_
              have hD' : isD (l.take (i + 1)) = true := by
                rw [List.take_add_one, hcc]
                show List.all _ _ = true
                rw [List.all_append]
                have hDD : (l.take i).all (fun c => decide (48 ≤ c) && decide (c ≤ 57)) = true := hD
                rw [hDD]
                simp [hf.1, hf.2]
              have go : ∀ (k : Nat) (z : Int) (zs : List V), ((i : Int) / 6 = k) → [V.int (dv l 0 6 i), V.int (dv l 6 12 i), V.int (dv l 12 18 i)][k]? = some (.int z) → zs = [V.int (dv l 0 6 i), V.int (dv l 6 12 i), V.int (dv l 12 18 i)].set k (.int (z * 10 + ((c - 48 : Nat) : Int))) → zs = [V.int (dv l 0 6 (i + 1)), V.int (dv l 6 12 (i + 1)), V.int (dv l 12 18 (i + 1))] →
                  rIX K (.ref p) (.int ((i : Int) / 6)) H1 (fun x H1 => tC (.int 10) [some (.str (S l)), some (.ref p), some (.int i), some (.int ((c - 48 : Nat) : Int))] H1 fun y H2 => rMUL K x y H2 fun x H1 =>
                    tVar 3 [some (.str (S l)), some (.ref p), some (.int i), some (.int ((c - 48 : Nat) : Int))] H1 fun y H2 => rADD K x y H2 fun x H1 => gSub (tVar 1) (tOp rFDIV (tVar 2) (tC (.int 6))) rSetL x [some (.str (S l)), some (.ref p), some (.int i), some (.int ((c - 48 : Nat) : Int))] H1 fun σ' H' => ∃ y2 y3, σ' = [some (.str (S l)), some (.ref p), y2, y3] ∧ Same H H' ∧ H' p = some (.lst [.int (dv l 0 6 (i + 1)), .int (dv l 6 12 (i + 1)), .int (dv l 12 18 (i + 1))]) ∧ isD (l.take (i + 1)) = true) := by
                intro k z zs hk hz hzs hzs2
                have hk3 : k < 3 := (List.getElem?_eq_some_iff.mp hz).1
                rw [hk]
                refine ix_L (lst_of hH) (atI_nat hz) ?_
                walk_at "rd"
                refine m_ii (.inl (.inr (by decide))) ?_
                walk_at "rd"
                refine fd_ii ⟨by decide, by decide⟩ ?_
                rw [hk]
                refine st_L hH (by omega) (by show (k : Int) < 3; omega) ?_
                refine ⟨some (.int i), some (.int ((c - 48 : Nat) : Int)), rfl, same_mut hS hp, ?_, hD'⟩
                rw [upd_same, Int.toNat_natCast, ← hzs, hzs2]
              by_cases h1 : i < 6
              · refine go 0 _ _ (by omega) rfl rfl ?_
                rw [dv_more hcc (Nat.zero_le _) h1 hf.1, dv_same (.inr h1), dv_same (.inr (show i < 12 by omega))]
                rfl
              · by_cases h2 : i < 12
                · refine go 1 _ _ (by omega) rfl rfl ?_
                  rw [dv_more hcc (show 6 ≤ i by omega) h2 hf.1, dv_same (.inl (show 6 ≤ i by omega)), dv_same (.inr h2)]
                  rfl
                · refine go 2 _ _ (by omega) rfl rfl ?_
                  rw [dv_more hcc (show 12 ≤ i by omega) hi18 hf.1, dv_same (.inl (show 6 ≤ i by omega)), dv_same (.inl (show 12 ≤ i by omega))]
                  rfl
          · rw [if_neg hf]
            walk_at "rd"
            rw [toldL_no hi18 hcc hf] at q
            exact q _ H1 hS .non
        · obtain ⟨y2, y3, rfl, hS, hH, hD⟩ := hP
          walk_at "rd"
          refine ix_L (lst_of hH) (atI_nat (j := 0) rfl) ?_
          walk_at "rd"
          refine ix_L (lst_of hH) (atI_nat (j := 1) rfl) ?_
          walk_at "rd"
          refine ix_L (lst_of hH) (atI_nat (j := 2) rfl) ?_
          walk_at "rd"
          refine ix_SS (by decide) (by omega) (by omega) fun c' hc' => ?_
          have e18 : c' = c18 := by
            have : l[18]? = some c' := hc'
            rw [hc] at this
            exact (Option.some.inj this).symm
          subst e18
          rw [show ("+" : Str) = S [43] from rfl]
          walk_at "rd"
          refine ⟨by show 5 ≤ sizeLine; decide, fun p2 hp2 => ?_⟩
          refine q _ _ (same_new hS hp2) ?_
          unfold toldL
          have n1 := numAt_yes (l := l) (a := 0) (k := 6) (by decide) (by omega) (isD_cut hD (by decide))
          have n2 := numAt_yes (l := l) (a := 6) (k := 6) (by decide) (by omega) (isD_cut hD (by decide))
          have n3 := numAt_yes (l := l) (a := 12) (k := 6) (by decide) (by omega) (isD_cut hD (by decide))
          rw [if_pos ⟨h19, hs⟩, n1, n2, n3]
          refine .tup (tup_of upd_same) (.cons (.int _) (.cons (.int _) (.cons (.int _) (.cons ?_ (.cons (.str _) .nil)))))
          rw [show decide (l[18]? = some 43) = decide ([c'] = [43]) by rw [hc]; simp]
          exact .bl _
end
end My

set_option Elab.async false
set_option linter.all false
set_option maxRecDepth 100000
set_option maxHeartbeats 1000000
namespace My
open PySem PySem.Spec PyProof.Rows L2
local macro_rules | `(tactic| walk_at "len") => `(tactic| first | assumption | omega | decide | (simp only [List.length_append, List.length_take, List.length_drop, List.length_cons, List.length_nil, List.length_replicate]; omega))
local macro_rules | `(tactic| walk_at "side") => `(tactic| first | assumption | exact Nat.zero_le _ | decide | omega)
local macro_rules | `(tactic| walk_at "rd1") => `(tactic| first
  | with_reducible refine s_seq ?_
  | with_reducible refine x_gsub ?_
  | with_reducible refine s_asg ?_
  | ((with_reducible refine s_gn ?_); dsimp only [List.set])
  | ((with_reducible refine x_var (v := ?rdv) ?rdhv ?_); (case rdhv => rfl))
  | with_reducible refine x_c ?_
  | with_reducible refine x_op ?_
  | with_reducible refine x_cons ?_
  | with_reducible refine x_nil ?_
  | with_reducible refine x_cb ?_
  | with_reducible refine x_call ?_
  | with_reducible refine s_if ?_
  | with_reducible refine s_ret ?_
  | with_reducible refine s_retN ?_
  | with_reducible refine s_next ?_
  | with_reducible refine s_brk ?_
  | with_reducible refine s_cont ?_
  | with_reducible refine s_drop ?_
  | with_reducible refine s_par ?_
  | with_reducible refine s_par3 ?_
  | ((with_reducible refine s_p2 ?_); dsimp only [List.set])
  | ((with_reducible refine s_p3 ?_); dsimp only [List.set])
  | with_reducible refine f_r1 ?_
  | with_reducible refine f_r2 ?_
  | with_reducible refine f_l ?_
  | with_reducible refine f_t ?_
  | with_reducible refine f_s ?_
  | with_reducible refine c_r1 ?_
  | with_reducible refine c_r2 ?_
  | with_reducible refine c_l ?_
  | with_reducible refine c_t ?_
  | with_reducible refine c_s ?_
  | with_reducible refine x_tst ?_
  | with_reducible refine x_tru ?_
  | with_reducible refine x_truB ?_
  | with_reducible refine x_bl2 ?_
  | with_reducible refine x_int ?_
  | with_reducible refine x_str ?_
  | with_reducible refine x_not ?_
  | with_reducible refine x_and ?_
  | with_reducible refine x_or ?_
  | with_reducible refine x_andV ?_
  | with_reducible refine x_orV ?_
  | with_reducible refine x_notV ?_
  | with_reducible refine x_if ?_
  | with_reducible refine x_yes ?_
  | with_reducible refine x_un ?_
  | with_reducible refine x_tup ?_
  | with_reducible refine x_lst ?_
  | with_reducible refine x_callK ?_
  | with_reducible refine x_callK0 ?_
  | with_reducible refine x_bm ?_
  | with_reducible refine x_bm0 ?_
  | with_reducible refine x_tyS ?_
  | with_reducible refine x_sl ?_
  | with_reducible refine x_nopart ?_
  | with_reducible refine x_part ?_
  | with_reducible refine x_fmt0 ?_
  | with_reducible refine x_fmt ?_
  | with_reducible refine x_chain ?_
  | with_reducible refine a_ii ?_
  | ((with_reducible refine sl_to ?rda ?rdb ?_); (case rda => walk_at "len"); (case rdb => walk_at "len"))
  | ((with_reducible refine sl_from ?rda ?rdb ?_); (case rda => walk_at "len"); (case rdb => walk_at "len"))
  | ((with_reducible refine sl_mid ?rda ?rdb ?rdc ?_); (case rda => walk_at "len"); (case rdb => walk_at "len"); (case rdc => walk_at "len"))
  | ((with_reducible refine a_SS ?rda ?_); (case rda => walk_at "len"))
  | ((with_reducible refine ln_S ?rda ?_); (case rda => walk_at "len"))
  | with_reducible refine e_SS ?_
  | with_reducible refine ne_SS ?_
  | with_reducible refine s_ii ?_
  | ((with_reducible refine md_ii ?rdc ?_); (case rdc => first | decide | assumption | omega))
  | with_reducible refine n_i ?_
  | with_reducible refine e_ii ?_
  | with_reducible refine e_bb ?_
  | with_reducible refine ne_ii ?_
  | with_reducible refine ne_bb ?_
  | with_reducible refine lt_ii ?_
  | with_reducible refine lt_ss ?_
  | with_reducible refine le_ii ?_
  | with_reducible refine gt_ii ?_
  | with_reducible refine gt_ss ?_
  | with_reducible refine ge_ii ?_
  | with_reducible refine e_ss ?_
  | with_reducible refine ne_ss ?_
  | with_reducible refine is_N ?_
  | with_reducible refine is_T ?_
  | with_reducible refine is_B ?_
  | with_reducible refine isn_N ?_
  | with_reducible refine isn_T ?_
  | with_reducible refine isn_B ?_
  | with_reducible refine in_s ?_
  | with_reducible refine nin_s ?_
  | with_reducible refine i_i ?_
  | with_reducible refine i_b ?_
  | with_reducible refine ab_i ?_
  | with_reducible refine mx_ii ?_
  | with_reducible refine mn_ii ?_
  | with_reducible refine ty_N ?_
  | with_reducible refine ty_B ?_
  | with_reducible refine ty_I ?_
  | with_reducible refine ty_S ?_
  | with_reducible refine ma_s ?_
  | with_reducible refine mp_s ?_
  | with_reducible refine mdg_s ?_
  | with_reducible refine mf_s ?_
  | with_reducible refine iteT ?_
  | with_reducible refine iteF ?_
  | with_reducible refine iteNt ?_
  | with_reducible refine iteNf ?_
  | with_reducible refine iteTd (by decide) ?_
  | with_reducible refine iteFd (by decide) ?_
  | with_reducible refine iteNd (by decide) ?_
  | with_reducible refine iteNdF (by decide) ?_
  | ((with_reducible refine iteFd ?rdn ?_); (case rdn => (intro rdz; cases rdz; done)))
  | ((with_reducible refine iteNdF ?rdn ?_); (case rdn => (intro rdz; cases rdz; done))))
local macro_rules | `(tactic| walk_at "rd") => `(tactic| (repeat walk_at "rd1"))
section
variable {P : Program} {w : World} {K : PySem.W.Frag} {mg : Str → Option Value} {base : Heap}
/-! the law -/
theorem pieceL_eq {a n w : Nat} (m : Bool) (l : List Nat) (ha : a < 1000000) (hn : n < 1000000) (hw : w < 1000000) : pieceL a n w m l = figs 6 a ++ (figs 6 n ++ (figs 6 w ++ ([if m then 43 else 46] ++ l))) := by
  unfold pieceL
  rw [pad_figs 6 a (by omega) (by decide), pad_figs 6 n (by omega) (by decide), pad_figs 6 w (by omega) (by decide)]
  simp
theorem pieceL_len {a n w : Nat} {m : Bool} {l : List Nat} (ha : a < 1000000) (hn : n < 1000000) (hw : w < 1000000) : (pieceL a n w m l).length = 19 + l.length := by
  rw [pieceL_eq m l ha hn hw]
  simp only [List.length_append, figs_len, List.length_cons, List.length_nil]
  omega
theorem pieceL_isT {a n w : Nat} {m : Bool} {l : List Nat} (ha : a < 1000000) (hn : n < 1000000) (hw : w < 1000000) (hT : isT l = true) : isT (pieceL a n w m l) = true := by
  rw [pieceL_eq m l ha hn hw]
  simp only [isT_app, isD_isT (figs_isD 6 _), hT]
  cases m <;> rfl
theorem take_drop_mid {A B C : List Nat} {i j : Nat} (hi : A.length = i) (hj : A.length + B.length = j) : ((A ++ (B ++ C)).take j).drop i = B := by
  rw [← List.append_assoc, List.take_left' (by rw [List.length_append]; exact hj), List.drop_left' hi]
theorem toldL_piece {a n w : Nat} {m : Bool} {l : List Nat} (ha : a < 1000000) (hn : n < 1000000) (hw : w < 1000000) : toldL (pieceL a n w m l) = .tuple [.int a, .int n, .int w, .bool m, .str (S l)] := by
  rw [pieceL_eq m l ha hn hw]
  have e1 : ((figs 6 a ++ (figs 6 n ++ (figs 6 w ++ ([if m then 43 else 46] ++ l)))).take (0 + 6)).drop 0 = figs 6 a := by
    rw [List.drop_zero, List.take_left' (figs_len 6 a)]
  have e2 : ((figs 6 a ++ (figs 6 n ++ (figs 6 w ++ ([if m then 43 else 46] ++ l)))).take (6 + 6)).drop 6 = figs 6 n := take_drop_mid (figs_len 6 a) (by rw [figs_len, figs_len])
  have e3 : ((figs 6 a ++ (figs 6 n ++ (figs 6 w ++ ([if m then 43 else 46] ++ l)))).take (12 + 6)).drop 12 = figs 6 w := by
    rw [← List.append_assoc (figs 6 a)]
    exact take_drop_mid (by rw [List.length_append, figs_len, figs_len]) (by rw [List.length_append, figs_len, figs_len, figs_len])
  have e4 : (figs 6 a ++ (figs 6 n ++ (figs 6 w ++ ([if m then 43 else 46] ++ l))))[18]? = some (if m then 43 else 46) := by
    rw [List.getElem?_append_right (by rw [figs_len]; decide), List.getElem?_append_right (by rw [figs_len, figs_len]; decide), List.getElem?_append_right (by rw [figs_len, figs_len, figs_len]; decide), figs_len, figs_len, figs_len]
    rfl
  have e5 : (figs 6 a ++ (figs 6 n ++ (figs 6 w ++ ([if m then 43 else 46] ++ l)))).drop 19 = l := by
    rw [← List.append_assoc, ← List.append_assoc, ← List.append_assoc]
    exact List.drop_left' (by simp only [List.length_append, figs_len, List.length_cons, List.length_nil])
  have e6 : 19 ≤ (figs 6 a ++ (figs 6 n ++ (figs 6 w ++ ([if m then 43 else 46] ++ l)))).length := by
    simp only [List.length_append, figs_len, List.length_cons, List.length_nil]
    omega
  unfold toldL numAt
  rw [e1, e2, e3, e4, e5, figs_len, figs_len, figs_len, figs_isD, figs_isD, figs_isD, digitsVal_figs 6 a ha, digitsVal_figs 6 n hn, digitsVal_figs 6 w hw]
  cases m
  · rw [if_pos ⟨e6, .inr rfl⟩]
    rfl
  · rw [if_pos ⟨e6, .inl rfl⟩]
    rfl
theorem strOk_S {l : List Nat} (h : isT l = true) : SeqAt.shaped (.str (S l)) = true := by
  have h1 : PyData.canLay0 (.str (S l)) = true := by
    show PyData.strOk (S l) = true
    unfold PyData.strOk
    rw [← Array.all_toList, S_cps, List.all_eq_true]
    intro c hc
    have := isT_mem h hc
    exact decide_eq_true (by omega)
  unfold SeqAt.shaped
  rw [h1]
  simp [PyData.depth]
theorem shaped_int (i : Int) : SeqAt.shaped (.int i) = true := by simp [SeqAt.shaped, PyData.canLay0, PyData.depth]
theorem shaped_bool (b : Bool) : SeqAt.shaped (.bool b) = true := by simp [SeqAt.shaped, PyData.canLay0, PyData.depth]
theorem fine_str {l : List Nat} (n : Nat) (h : isT l = true) : Fine n (.str (S l)) := by cases n <;> exact strOk_S h
theorem fine_int (n : Nat) (i : Int) : Fine n (.int i) := by cases n <;> exact shaped_int i
theorem fine_bool (n : Nat) (i : Bool) : Fine n (.bool i) := by cases n <;> exact shaped_bool i
theorem fine_told {l : List Nat} (n : Nat) (h : isT l = true) : Fine (n + 1) (toldL l) := by
  have hn : Fine (n + 1) .none := by show SeqAt.shaped .none = true; decide
  unfold toldL
  split
  · split
    · refine ⟨by simp, fun e he => ?_⟩
      simp only [List.mem_cons, List.not_mem_nil, or_false] at he
      rcases he with rfl | rfl | rfl | rfl | rfl
      · exact fine_int n _
      · exact fine_int n _
      · exact fine_int n _
      · exact fine_bool n _
      · exact fine_str n (isT_drop _ h)
    · exact hn
  · exact hn
theorem parts_lt {n f k : Nat} (hf : 1 ≤ f) (h : k * f < n) : k < partsN n f := by
  unfold partsN
  have h1 : k ≤ (max n 1 - 1) / f := (Nat.le_div_iff_mul_le (by omega)).mpr (by omega)
  omega
theorem parts_le {n f k : Nat} (hf : 1 ≤ f) (hk : 1 ≤ k) (h : n ≤ k * f) : partsN n f ≤ k := by
  unfold partsN
  have h0 : 1 ≤ k * f := Nat.le_trans hk (Nat.le_mul_of_pos_right k hf)
  have h1 : (max n 1 - 1) / f < k := (Nat.div_lt_iff_lt_mul (by omega)).mpr (by omega)
  omega
theorem parts_sz {n f : Nat} : partsN n f ≤ n + 1 := by
  unfold partsN
  have := Nat.div_le_self (max n 1 - 1) f
  omega
theorem fine_list {n : Nat} {ds : List PyData} (hl : ds.length ≤ 100000) (h : ∀ e ∈ ds, Fine n e) : Fine (n + 1) (.list ds) := ⟨hl, h⟩
theorem mem2 {α : Type} {P : α → Prop} {a b : α} (h1 : P a) (h2 : P b) : ∀ e ∈ [a, b], P e := fun e he => by
  simp only [List.mem_cons, List.not_mem_nil, or_false] at he
  rcases he with rfl | rfl
  · exact h1
  · exact h2
theorem SprAt.same {H H' : Hp} {s g : Addr} (h : SprAt H s g) (e : Same H H') : SprAt H' s g := by
  obtain ⟨gr, m, c, h1, h2, h3⟩ := h
  exact ⟨gr, m, c, e _ _ h1, e _ _ h2, h3⟩
def spLaw (K : PySem.W.Frag) : Sp := fun vs H Q _ => ∃ (a : Addr) (ns : List Int), vs = [.ref a] ∧ SqL K H a (ns.map V.int) ∧ ns.length ≤ 63 ∧ ∀ H', Q (.bl true) H'
def LawInv (a s g : Addr) (σ : St) (H : Hp) : Prop := ∃ y2 y3 y4 y5 y6 y7 y8 y9 y10 y11 y12 y13 y14, σ = [some (.ref a), some (.ref s), y2, y3, y4, y5, y6, y7, y8, y9, y10, y11, y12, y13, y14] ∧ SprAt H s g
theorem ok_law (Y : Fx K mg) : FnOk P w K mg base CX0 5 Y.a_law Y.fd_law ["_law_script"] (spLaw K) := by
  refine Y.F_law.ok sc_law (fun vs H Q E h => ?_) (fun cdv A outer st H vs Q E hr h => ?_)
  · obtain ⟨a, ns, rfl, _⟩ := h
    rfl
  · obtain ⟨a, ns, rfl, hS, hl, q⟩ := h
    refine ⟨_, b_law Y (sp__law_alike := spA (Fine 2)) (ok__law_alike Y 2) (ok__law_drop Y) (ok__law_number Y) (ok__law_read Y) (ok__law_spoilt Y) (ok__law_spring Y) (ok__law_text Y) (ok__law_written Y) (ok_piece_text Y) (ok_piece_told Y) (ok_pieces_of Y) hr, ?_⟩
    show t_law K _ _ _ _ _ _ _ _ _ _ _ _ [some (.ref a), none, none, none, none, none, none, none, none, none, none, none, none, none, none] H
    unfold t_law
    walk_at "rd"
    refine ⟨a, ns, rfl, hS, hl, fun s g H1 hsn hgn hSp hS1 => ?_⟩
    walk_at "rd"
    refine for1_mk (by decide) (by decide) (fun i σ H' => LawInv a s g σ H') ⟨none, none, none, none, none, none, none, none, none, none, none, none, none, rfl, hSp⟩ (fun i σ H0 hi hP => ?_) (fun σ H' hP => ?_)
    · obtain ⟨y2, y3, y4, y5, y6, y7, y8, y9, y10, y11, y12, y13, y14, rfl, hSp0⟩ := hP
      clear hSp hS1 hsn hgn hS hl
      walk_at "rd"
      -- three numbers
      refine lcR1_mk (by decide) (by decide) (fun D i H' => SprAt H' s g ∧ ∃ ks : List Nat, H' D = some (.lst (ks.map fun k : Nat => V.int k)) ∧ ks.length = i ∧ ∀ k ∈ ks, k < 1000000) (fun D hD => ⟨hSp0.new hD, [], upd_same, rfl, by intro _ h; cases h⟩) (fun D i H' hD hi hp => ?_) (fun D H2 hD hp => ?_)
      · obtain ⟨hSp1, ks, hk, hkl, hka⟩ := hp
        refine ⟨rfl, ?_⟩
        walk_at "rd"
        refine ⟨s, g, rfl, hSp1, fun z H3 hz hSp3 hF3 => ?_⟩
        obtain ⟨o1, o2⟩ := hSp0.off hD
        have hi3 : i < 3 := hi
        refine ⟨_, hF3 D _ o1 o2 hk, ?_, hSp3.keep o1 o2, ks ++ [z], ?_, ?_, ?_⟩
        · rw [List.length_map]
          exact Nat.lt_of_le_of_lt (show ks.length ≤ 3 by omega) (by decide)
        · rw [upd_same, List.map_append]
          rfl
        · rw [List.length_append, hkl]
          rfl
        · intro k hk
          rcases List.mem_append.mp hk with h | h
          · exact hka k h
          · rw [List.mem_singleton.mp h]
            exact hz
      · obtain ⟨hSp2, ks, hk, hkl, hka⟩ := hp
        obtain ⟨o1, o2⟩ := hSp0.off hD
        have hkl3 : ks.length = 3 := hkl
        match ks, hkl3 with
        | [ka, kn, kw], _ =>
        have la := hka ka (by simp)
        have ln := hka kn (by simp)
        have lw := hka kw (by simp)
        have hk : H2 D = some (.lst [V.int ka, V.int kn, V.int kw]) := hk
        walk_at "rd"
        refine ⟨s, g, 2, rfl, hSp2, by decide, by decide, fun r1 H3 _ _ hSp3 hF3 => ?_⟩
        have hk3 := hF3 D _ o1 o2 hk
        walk_at "rd"
        generalize decide (r1 = 0) = m
        refine ⟨s, g, 982, rfl, hSp3, by decide, by decide, fun r2 H4 r20 r21 hSp4 hF4 => ?_⟩
        have hk4 := hF4 D _ o1 o2 hk3
        walk_at "rd"
        refine ⟨by show 5 ≤ sizeLine; decide, fun p1 hp1 => ?_⟩
        walk_at "rd"
        have hk5 := same_upd hp1 (o := .lst [V.int 0, V.int 1, V.int 81, V.int 981, V.int r2]) _ _ hk4
        obtain ⟨u1, u2⟩ := hSp4.off hp1
        refine ⟨s, g, 5, rfl, hSp4.new hp1, by decide, by decide, fun r3 H6 r30 r31 hSp6 hF6 => ?_⟩
        have hk6 := hF6 D _ o1 o2 hk5
        refine ix_int (n := 1000) (lst_of (hF6 p1 _ u1 u2 upd_same)) (int_cons (by decide) (by decide) (int_cons (by decide) (by decide) (int_cons (by decide) (by decide) (int_cons (by decide) (by decide) (int_cons r20 (by omega) int_nil))))) r30 r31 fun z hz => ?_
        walk_at "rd"
        refine ⟨s, g, z, rfl, hSp6, by omega, fun l H7 hll hlT hSp7 hF7 => ?_⟩
        have hk7 := hF7 D _ o1 o2 hk6
        clear hk hk3 hk4 hk5 hk6 hF3 hF4 hF6 hF7 hSp2 hSp3 hSp4 hSp6
        walk_at "rd"
        refine ix_L (lst_of hk7) (atI_nat (j := 0) rfl) ?_
        walk_at "rd"
        refine ix_L (lst_of hk7) (atI_nat (j := 1) rfl) ?_
        walk_at "rd"
        refine ix_L (lst_of hk7) (atI_nat (j := 2) rfl) ?_
        walk_at "rd"
        refine ⟨ka, kn, kw, m, l, rfl, la, ln, lw, by omega, fun H8 hS8 => ?_⟩
        have hdl := pieceL_len (m := m) (l := l) la ln lw
        have hdT := pieceL_isT (m := m) la ln lw hlT
        have htl := toldL_piece (m := m) (l := l) la ln lw
        have hk8 := hS8 _ _ hk7
        have hSp8 := hSp7.same hS8
        walk_at "rd"
        refine ix_L (lst_of hk8) (atI_nat (j := 0) rfl) ?_
        walk_at "rd"
        refine ix_L (lst_of hk8) (atI_nat (j := 1) rfl) ?_
        walk_at "rd"
        refine ix_L (lst_of hk8) (atI_nat (j := 2) rfl) ?_
        walk_at "rd"
        refine ⟨ka, kn, kw, m, l, rfl, la, ln, lw, by omega, ?_⟩
        walk_at "rd"
        refine ⟨by show 1 ≤ sizeLine; decide, fun p2 hp2 => ?_⟩
        have hk9 := same_upd hp2 (o := .lst [V.str (S (pieceL ka kn kw m l))]) _ _ hk8
        walk_at "rd"
        refine ix_L (lst_of hk9) (atI_nat (j := 2) rfl) ?_
        walk_at "rd"
        refine ix_L (lst_of hk9) (atI_nat (j := 1) rfl) ?_
        walk_at "rd"
        refine ix_L (lst_of hk9) (atI_nat (j := 0) rfl) ?_
        walk_at "rd"
        refine ⟨ka, kn, kw, m, l, rfl, la, ln, lw, by omega, ?_⟩
        generalize hdue : pieceL ka kn kw m l = due at hdl hdT htl hk9
        walk_at "rd"
        refine ⟨by show 1 ≤ sizeLine; decide, fun p3 hp3 => ?_⟩
        have hk10 := same_upd hp3 (o := .lst [V.str (S due)]) _ _ hk9
        have hSp10 := (hSp8.new hp2 (o := .lst [V.str (S due)])).new hp3 (o := .lst [V.str (S due)])
        refine a_ll (by rw [upd_ne (Ne.symm (ne_new upd_same hp3))]; exact upd_same) upd_same (by show 2 ≤ sizeLine; decide) fun p4 hp4 => ?_
        have hk11 := same_upd hp4 (o := .lst ([V.str (S due)] ++ [V.str (S due)])) _ _ hk10
        have hSp11 := hSp10.new hp4 (o := .lst ([V.str (S due)] ++ [V.str (S due)]))
        have h4 : upd (upd (upd H8 p2 (.lst [V.str (S due)])) p3 (.lst [V.str (S due)])) p4 (.lst ([V.str (S due)] ++ [V.str (S due)])) p4 = some (.lst [V.str (S due), V.str (S due)]) := upd_same
        generalize upd (upd (upd H8 p2 (.lst [V.str (S due)])) p3 (.lst [V.str (S due)])) p4 (.lst ([V.str (S due)] ++ [V.str (S due)])) = H11 at hk11 hSp11 h4
        clear hk7 hk8 hk9 hk10 hSp7 hSp8 hSp10
        walk_at "rd"
        refine ⟨by show 2 ≤ sizeLine; decide, fun p5 hp5 => ?_⟩
        walk_at "rd"
        have hdd : ∀ {H : Hp} {p : Addr}, H p = some (.lst [V.str (S due), V.str (S due)]) → Dp K H (.ref p) (.list [.str (S due), .str (S due)]) := fun h => .lst (lst_of h) (.cons (.str _) (.cons (.str _) .nil))
        have hk12 := same_upd hp5 (o := .lst [V.str (S due), V.str (S due)]) _ _ hk11
        refine ⟨.ref p4, .ref p5, .list [.str (S due), .str (S due)], rfl, hdd (same_upd hp5 _ _ h4), hdd upd_same, fine_list (by show 2 ≤ 100000; decide) (mem2 (fine_str 1 hdT) (fine_str 1 hdT)), fun H13 hS13 => ?_⟩
        have hk13 := hS13 _ _ hk12
        have hSp13 := (hSp11.new hp5).same hS13
        clear hk11 hk12 hSp11 h4
        walk_at "rd"
        -- told of the written piece
        refine ⟨due, rfl, hdT, by omega, fun v1 H14 hS14 hv1 => ?_⟩
        walk_at "rd"
        refine ⟨due, rfl, hdT, by omega, fun v2 H15 hS15 hv2 => ?_⟩
        walk_at "rd"
        refine ⟨by show 2 ≤ sizeLine; decide, fun p6 hp6 => ?_⟩
        have hS16 := same_new (hS14.trans hS15) hp6 (o := .lst [v1, v2])
        have hk16 := hS16 _ _ hk13
        have hSp16 := hSp13.same hS16
        have hv16 : Dp K (upd H15 p6 (.lst [v1, v2])) (.ref p6) (.list [toldL due, toldL due]) := .lst (lst_of upd_same) (.cons (dp_mono (same_new hS15 hp6) _ _ hv1) (.cons (dp_mono (same_upd hp6) _ _ hv2) .nil))
        generalize upd H15 p6 (.lst [v1, v2]) = H16 at hk16 hSp16 hv16
        clear hk13 hSp13 hS16
        walk_at "rd"
        refine ⟨by show 2 ≤ sizeLine; decide, fun p7 hp7 => ?_⟩
        refine a_ll (same_upd hp7 _ _ hk16) upd_same (by show 5 ≤ sizeLine; decide) fun p8 hp8 => ?_
        walk_at "rd"
        refine ⟨p8, _, rfl, .inl ⟨lst_of upd_same, fun p9 hp9 => ?_⟩⟩
        walk_at "rd"
        refine ⟨by show 1 ≤ sizeLine; decide, fun p10 hp10 => ?_⟩
        walk_at "rd"
        refine m_li upd_same (by decide) (by decide) (by show 2 ≤ sizeLine; decide) fun p11 hp11 => ?_
        walk_at "rd"
        have hS17 := same_new (same_new (same_new (same_new (same_upd hp7) hp8) hp9) hp10) hp11 (o := .lst (List.replicate (Int.toNat 2) [V.ref p9]).flatten)
        refine ⟨.ref p6, .ref p11, .list [toldL due, toldL due], rfl, dp_mono hS17 _ _ hv16, ?_, fine_list (by show 2 ≤ 100000; decide) (mem2 (fine_told 0 hdT) (fine_told 0 hdT)), fun H18 hS18 => ?_⟩
        · rw [htl]
          have ht9 := same_sqt (K := K) (same_new (same_upd hp10 (o := .lst [V.ref p9])) hp11 (o := .lst (List.replicate (Int.toNat 2) [V.ref p9]).flatten)) (tup_of upd_same)
          have hd9 : Dp K _ (.ref p9) (.tuple [.int ka, .int kn, .int kw, .bool m, .str (S l)]) := .tup ht9 (.cons (.int _) (.cons (.int _) (.cons (.int _) (.cons (.bl _) (.cons (.str _) .nil)))))
          exact .lst (lst_of upd_same) (.cons hd9 (.cons hd9 .nil))
        have hSp18 := (hSp16.same hS17).same hS18
        clear hS17 hS18 hk16 hv16 hSp16
        walk_at "rd"
        refine ⟨s, g, due, rfl, hSp18, by omega, hdT, fun b1 H19 b1l b1T hSp19 _ => ?_⟩
        walk_at "rd"
        refine ⟨s, g, due, rfl, hSp19, by omega, hdT, fun b2 H20 b2l b2T hSp20 _ => ?_⟩
        walk_at "rd"
        refine ⟨s, g, 25, rfl, hSp20, by decide, fun b3 H21 b3l b3T hSp21 _ => ?_⟩
        walk_at "rd"
        refine ⟨by show 5 ≤ sizeLine; decide, fun p12 hp12 => ?_⟩
        have hall : TxtAll 1000 [V.str (S b1), V.str (S b2), V.str "", V.str (S l), V.str (S b3)] := txt_cons b1l b1T (txt_cons b2l b2T (txt_cons (l := []) (by decide) rfl (txt_cons (by omega) hlT (txt_cons (by omega) b3T txt_nil))))
        obtain ⟨v1, v2⟩ := hSp21.off hp12
        have hSp22 := hSp21.new hp12 (o := .lst [V.str (S b1), V.str (S b2), V.str "", V.str (S l), V.str (S b3)])
        have h12 : upd H21 p12 (.lst [V.str (S b1), V.str (S b2), V.str "", V.str (S l), V.str (S b3)]) p12 = some (.lst [V.str (S b1), V.str (S b2), V.str "", V.str (S l), V.str (S b3)]) := upd_same
        refine forL_mk (lst_of h12) (fun j σ H' => ∃ y8, σ = [some (.ref a), some (.ref s), some (.int i), some (.ref D), some (.bl m), some (.str (S l)), some (.str (S due)), some (.ref p4), y8, y9, y10, y11, y12, y13, y14] ∧ SprAt H' s g ∧ H' p12 = some (.lst [V.str (S b1), V.str (S b2), V.str "", V.str (S l), V.str (S b3)])) ⟨y8, rfl, hSp22, h12⟩ (fun j σ H' _ hP => lst_of hP.choose_spec.2.2) (fun j x σ H' hx hP => ?_) (fun σ H' hP => ?_)
        · obtain ⟨y8', rfl, hSp23, h13⟩ := hP
          obtain ⟨bl, hbl, hbT, rfl⟩ := hall x (List.mem_of_getElem? hx)
          walk_at "rd"
          refine ⟨bl, rfl, hbT, by omega, fun w1 H24 hS24 hw1 => ?_⟩
          walk_at "rd"
          refine ⟨bl, rfl, hbT, by omega, fun w2 H25 hS25 hw2 => ?_⟩
          walk_at "rd"
          refine ⟨w1, w2, toldL bl, rfl, dp_mono hS25 _ _ hw1, hw2, fine_told 1 hbT, fun H26 hS26 => ?_⟩
          walk_at "rd"
          have hS := (hS24.trans hS25).trans hS26
          exact ⟨_, rfl, hSp23.same hS, hS _ _ h13⟩
        · obtain ⟨y8', rfl, hSp23, h13⟩ := hP
          clear h12 hSp22 hall
          walk_at "rd"
          refine ⟨s, g, 901, rfl, hSp23, by decide, by decide, fun r4 H24 r40 r41 hSp24 _ => ?_⟩
          walk_at "rd"
          refine ⟨by show 4 ≤ sizeLine; decide, fun p13 hp13 => ?_⟩
          walk_at "rd"
          obtain ⟨u3, u4⟩ := hSp24.off hp13
          refine ⟨s, g, 4, rfl, hSp24.new hp13, by decide, by decide, fun r5 H25 r50 r51 hSp25 hF25 => ?_⟩
          refine ix_intp (F := fun z => 100 ≤ z ∧ z ≤ 1000) (lst_of (hF25 p13 _ u3 u4 upd_same)) (intp_cons (by decide) (by decide) (intp_cons (by decide) (by decide) (intp_cons (by decide) (by decide) (intp_cons (by omega) (by constructor <;> omega) intp_nil)))) r50 r51 fun sg hsg => ?_
          obtain ⟨hsg0, hsg1⟩ := hsg
          walk_at "rd"
          refine ⟨s, g, 6, rfl, hSp25, by decide, by decide, fun r6 H26 r60 r61 hSp26 _ => ?_⟩
          walk_at "rd"
          refine m_ii (.inl (.inl ⟨by omega, by omega⟩)) ?_
          walk_at "rd"
          refine ⟨s, g, 3, rfl, hSp26, by decide, by decide, fun r7 H27 r70 r71 hSp27 _ => ?_⟩
          walk_at "rd"
          have hm0 : 0 ≤ r6 * ((sg : Int) - 19) := Int.mul_nonneg r60 (by omega)
          have hm1 : r6 * ((sg : Int) - 19) ≤ 5 * 981 := Int.mul_le_mul (by omega) (by omega) (by omega) (by omega)
          have hb : 0 ≤ (if r6 * ((sg : Int) - 19) - 1 + r7 > 0 then r6 * ((sg : Int) - 19) - 1 + r7 else 0) ∧ (if r6 * ((sg : Int) - 19) - 1 + r7 > 0 then r6 * ((sg : Int) - 19) - 1 + r7 else 0) ≤ 5000 := by
            generalize r6 * ((sg : Int) - 19) = e at *
            split <;> omega
          generalize (if r6 * ((sg : Int) - 19) - 1 + r7 > 0 then r6 * ((sg : Int) - 19) - 1 + r7 else 0) = e at hb
          obtain ⟨sz, rfl⟩ : ∃ sz : Nat, e = (sz : Int) := ⟨e.toNat, by omega⟩
          refine ⟨s, g, sz, rfl, hSp27, by omega, fun rc H28 rcl rcT hSp28 _ => ?_⟩
          walk_at "rd"
          have hf1 : 1 ≤ sg - 19 := by omega
          have hsgf : (sg : Int) - 19 = ((sg - 19 : Nat) : Int) := by omega
          refine w_while (fun k σ H' => ∃ pz : Nat, σ = [some (.ref a), some (.ref s), some (.int i), some (.ref D), some (.bl m), some (.str (S l)), some (.str (S due)), some (.ref p4), y8', some (.int sg), some (.int r6), some (.int sz), some (.str (S rc)), some (.int pz), y14] ∧ 1 ≤ pz ∧ pz ≤ partsN sz (sg - 19) ∧ k = partsN sz (sg - 19) - pz ∧ H' = H28) _ ⟨1, rfl, Nat.le_refl _, Nat.succ_le_succ (Nat.zero_le _), rfl, rfl⟩ (fun k σ H' hW => ?_)
          obtain ⟨pz, rfl, hpz1, hpz2, rfl, rfl⟩ := hW
          have hpz3 := parts_sz (n := sz) (f := sg - 19)
          walk_at "rd"
          refine m_ii (.inl (.inl ⟨by omega, by omega⟩)) ?_
          walk_at "rd"
          rw [hsgf, ← Int.natCast_mul]
          refine ite2' (fun e => ?_) (fun e => ?_)
          · have hlt : pz * (sg - 19) < sz := by have := of_decide_eq_true e; omega
            have hlt2 := parts_lt hf1 hlt
            refine ⟨fun σ' H'' => ∃ k', k' < partsN sz (sg - 19) - pz ∧ ∃ pz : Nat, σ' = [some (.ref a), some (.ref s), some (.int i), some (.ref D), some (.bl m), some (.str (S l)), some (.str (S due)), some (.ref p4), y8', some (.int sg), some (.int r6), some (.int sz), some (.str (S rc)), some (.int pz), y14] ∧ 1 ≤ pz ∧ pz ≤ partsN sz (sg - 19) ∧ k' = partsN sz (sg - 19) - pz ∧ H'' = H', fun _ _ h => h, ?_⟩
            walk_at "rd"
            exact ⟨_, by omega, pz + 1, rfl, by omega, hlt2, rfl, rfl⟩
          · have hge : sz ≤ pz * (sg - 19) := by have := of_decide_eq_false e; omega
            have hpe : partsN sz (sg - 19) = pz := Nat.le_antisymm (parts_le hf1 hpz1 hge) hpz2
            walk_at "rd"
            refine ⟨rc, sg, rfl, rcT, by omega, by omega, by omega, fun H29 hS29 => ?_⟩
            walk_at "rd"
            refine ⟨rc, sg, rfl, rcT, by omega, by omega, by omega, fun H30 hS30 => ?_⟩
            rw [rcl, hpe]
            walk_at "rd"
            refine ⟨by show 2 ≤ sizeLine; decide, fun p14 hp14 => ?_⟩
            walk_at "rd"
            refine ⟨by show 2 ≤ sizeLine; decide, fun p15 hp15 => ?_⟩
            have hd2 : ∀ {H : Hp} {p : Addr}, H p = some (.lst [V.int pz, V.int pz]) → Dp K H (.ref p) (.list [.int pz, .int pz]) := fun h => .lst (lst_of h) (.cons (.int _) (.cons (.int _) .nil))
            refine ⟨.ref p14, .ref p15, .list [.int pz, .int pz], rfl, hd2 (same_upd hp15 _ _ upd_same), hd2 upd_same, fine_list (by show 2 ≤ 100000; decide) (mem2 (fine_int 1 _) (fine_int 1 _)), fun H31 hS31 => ?_⟩
            walk_at "rd"
            exact ⟨_, _, _, _, _, _, _, _, _, _, _, _, _, rfl, ((hSp28.same (hS29.trans hS30)).same (same_new (same_upd hp14) hp15)).same hS31⟩
    · walk_at "rd"
      exact q H'
end
end My

set_option Elab.async false
set_option linter.all false
set_option maxRecDepth 100000
set_option maxHeartbeats 1000000
namespace My
open PySem PySem.Spec PyProof.Rows L2
theorem rel_kb_piece_text_0 {vs : List V} {us : List Value} {zs : List V} {ws : List Value} (r1 : Vals vs us) (r2 : Vals zs ws) : Vals (gV_kb_piece_text_0 vs zs) (g_kb_piece_text_0 us ws) := by
  cases r1 with
  | cons _ _ => exact .nil
  | nil =>
    cases r2 with
    | nil => exact .nil
    | cons y0 r2 =>
      cases r2 with
      | nil => exact .nil
      | cons y1 r2 =>
        cases r2 with
        | nil => exact .nil
        | cons y2 r2 =>
          cases r2 with
          | nil => exact .nil
          | cons y3 r2 =>
            cases r2 with
            | nil => exact .nil
            | cons y4 r2 =>
              cases r2 with
              | cons _ _ => exact .nil
              | nil =>
                exact (.cons y4 (.cons y3 (.cons y2 (.cons y1 (.cons y0 .nil)))))

theorem kbm_kb_piece_text_0 {K : PySem.W.Frag} {f : Addr} {fd : FuncData} (F : Fun K "piece_text" "piece_text" s_piece_text f fd) : KBinds K fd ["age", "number", "writer", "more", "part"] ["part", "more", "writer", "number", "age"] g_kb_piece_text_0 gV_kb_piece_text_0 := by
  obtain ⟨oc, od, kV, doc, pm, an, cdv, ct, osl, rfl, lk, hcd⟩ := F.ex
  refine ⟨fun s us ws _ hl => ?_, rel_kb_piece_text_0⟩
  have hp : ∃ y0 y1 y2 y3 y4, us = [] ∧ ws = [y0, y1, y2, y3, y4] := by
    unfold g_kb_piece_text_0 at hl
    split at hl
    · exact ⟨_, _, _, _, _, rfl, rfl⟩
    · cases hl
  obtain ⟨y0, y1, y2, y3, y4, rfl, rfl⟩ := hp
  exact BindsTo.of_eq rfl
theorem rel_kb_piece_told_0 {vs : List V} {us : List Value} {zs : List V} {ws : List Value} (r1 : Vals vs us) (r2 : Vals zs ws) : Vals (gV_kb_piece_told_0 vs zs) (g_kb_piece_told_0 us ws) := by
  cases r1 with
  | cons _ _ => exact .nil
  | nil =>
    cases r2 with
    | nil => exact .nil
    | cons y0 r2 =>
      cases r2 with
      | cons _ _ => exact .nil
      | nil =>
        exact (.cons y0 .nil)

theorem kbm_kb_piece_told_0 {K : PySem.W.Frag} {f : Addr} {fd : FuncData} (F : Fun K "piece_told" "piece_told" s_piece_told f fd) : KBinds K fd ["block"] ["block"] g_kb_piece_told_0 gV_kb_piece_told_0 := by
  obtain ⟨oc, od, kV, doc, pm, an, cdv, ct, osl, rfl, lk, hcd⟩ := F.ex
  refine ⟨fun s us ws _ hl => ?_, rel_kb_piece_told_0⟩
  have hp : ∃ y0, us = [] ∧ ws = [y0] := by
    unfold g_kb_piece_told_0 at hl
    split at hl
    · exact ⟨_, rfl, rfl⟩
    · cases hl
  obtain ⟨y0, rfl, rfl⟩ := hp
  exact BindsTo.of_eq rfl
theorem rel_kb_pieces_of_0 {vs : List V} {us : List Value} {zs : List V} {ws : List Value} (r1 : Vals vs us) (r2 : Vals zs ws) : Vals (gV_kb_pieces_of_0 vs zs) (g_kb_pieces_of_0 us ws) := by
  cases r1 with
  | cons _ _ => exact .nil
  | nil =>
    cases r2 with
    | nil => exact .nil
    | cons y0 r2 =>
      cases r2 with
      | nil => exact .nil
      | cons y1 r2 =>
        cases r2 with
        | cons _ _ => exact .nil
        | nil =>
          exact (.cons y1 (.cons y0 .nil))

theorem kbm_kb_pieces_of_0 {K : PySem.W.Frag} {f : Addr} {fd : FuncData} (F : Fun K "pieces_of" "pieces_of" s_pieces_of f fd) : KBinds K fd ["record", "signs"] ["signs", "record"] g_kb_pieces_of_0 gV_kb_pieces_of_0 := by
  obtain ⟨oc, od, kV, doc, pm, an, cdv, ct, osl, rfl, lk, hcd⟩ := F.ex
  refine ⟨fun s us ws _ hl => ?_, rel_kb_pieces_of_0⟩
  have hp : ∃ y0 y1, us = [] ∧ ws = [y0, y1] := by
    unfold g_kb_pieces_of_0 at hl
    split at hl
    · exact ⟨_, _, rfl, rfl⟩
    · cases hl
  obtain ⟨y0, y1, rfl, rfl⟩ := hp
  exact BindsTo.of_eq rfl
def fx_mk {K : PySem.W.Frag} {h : Heap} {mg : Str → Option Value} (X : K.In h) (G : h.Ns mainGlobals mg)
    {f0 : Addr} {od0 an0 : Option Addr} {sl0 : Array (Option Value)} {oc0 kV0 dc0 pm0 cd0 ct0 : Value}
    (a0 : PySem.W.nsIn K mainGlobals "is_text" = some (some (.ref f0))) (l0 : K.lookup f0 = some ⟨oc0, od0, .func (PySem.W.fnOf "is_text" "is_text" (defArgs s_is_text) (defBody s_is_text) (defScope s_is_text) .none kV0 dc0 pm0 an0 cd0 ct0), sl0⟩) (c0 : PySem.W.codeIn K cd0 "is_text" = true) (k0 : PySem.W.keepIn K (.ref f0) = true)
    {f1 : Addr} {od1 an1 : Option Addr} {sl1 : Array (Option Value)} {oc1 kV1 dc1 pm1 cd1 ct1 : Value}
    (a1 : PySem.W.nsIn K mainGlobals "number_at" = some (some (.ref f1))) (l1 : K.lookup f1 = some ⟨oc1, od1, .func (PySem.W.fnOf "number_at" "number_at" (defArgs s_number_at) (defBody s_number_at) (defScope s_number_at) .none kV1 dc1 pm1 an1 cd1 ct1), sl1⟩) (c1 : PySem.W.codeIn K cd1 "number_at" = true) (k1 : PySem.W.keepIn K (.ref f1) = true)
    {f2 : Addr} {od2 an2 : Option Addr} {sl2 : Array (Option Value)} {oc2 kV2 dc2 pm2 cd2 ct2 : Value}
    (a2 : PySem.W.nsIn K mainGlobals "check_record" = some (some (.ref f2))) (l2 : K.lookup f2 = some ⟨oc2, od2, .func (PySem.W.fnOf "check_record" "check_record" (defArgs s_check_record) (defBody s_check_record) (defScope s_check_record) .none kV2 dc2 pm2 an2 cd2 ct2), sl2⟩) (c2 : PySem.W.codeIn K cd2 "check_record" = true) (k2 : PySem.W.keepIn K (.ref f2) = true)
    {f3 : Addr} {od3 an3 : Option Addr} {sl3 : Array (Option Value)} {oc3 kV3 dc3 pm3 cd3 ct3 : Value}
    (a3 : PySem.W.nsIn K mainGlobals "piece_text" = some (some (.ref f3))) (l3 : K.lookup f3 = some ⟨oc3, od3, .func (PySem.W.fnOf "piece_text" "piece_text" (defArgs s_piece_text) (defBody s_piece_text) (defScope s_piece_text) .none kV3 dc3 pm3 an3 cd3 ct3), sl3⟩) (c3 : PySem.W.codeIn K cd3 "piece_text" = true) (k3 : PySem.W.keepIn K (.ref f3) = true)
    {f4 : Addr} {od4 an4 : Option Addr} {sl4 : Array (Option Value)} {oc4 kV4 dc4 pm4 cd4 ct4 : Value}
    (a4 : PySem.W.nsIn K mainGlobals "piece_told" = some (some (.ref f4))) (l4 : K.lookup f4 = some ⟨oc4, od4, .func (PySem.W.fnOf "piece_told" "piece_told" (defArgs s_piece_told) (defBody s_piece_told) (defScope s_piece_told) .none kV4 dc4 pm4 an4 cd4 ct4), sl4⟩) (c4 : PySem.W.codeIn K cd4 "piece_told" = true) (k4 : PySem.W.keepIn K (.ref f4) = true)
    {f5 : Addr} {od5 an5 : Option Addr} {sl5 : Array (Option Value)} {oc5 kV5 dc5 pm5 cd5 ct5 : Value}
    (a5 : PySem.W.nsIn K mainGlobals "pieces_of" = some (some (.ref f5))) (l5 : K.lookup f5 = some ⟨oc5, od5, .func (PySem.W.fnOf "pieces_of" "pieces_of" (defArgs s_pieces_of) (defBody s_pieces_of) (defScope s_pieces_of) .none kV5 dc5 pm5 an5 cd5 ct5), sl5⟩) (c5 : PySem.W.codeIn K cd5 "pieces_of" = true) (k5 : PySem.W.keepIn K (.ref f5) = true)
    {f6 : Addr} {od6 an6 : Option Addr} {sl6 : Array (Option Value)} {oc6 kV6 dc6 pm6 cd6 ct6 : Value}
    (a6 : PySem.W.nsIn K mainGlobals "parts_of" = some (some (.ref f6))) (l6 : K.lookup f6 = some ⟨oc6, od6, .func (PySem.W.fnOf "parts_of" "parts_of" (defArgs s_parts_of) (defBody s_parts_of) (defScope s_parts_of) .none kV6 dc6 pm6 an6 cd6 ct6), sl6⟩) (c6 : PySem.W.codeIn K cd6 "parts_of" = true) (k6 : PySem.W.keepIn K (.ref f6) = true)
    {f7 : Addr} {od7 an7 : Option Addr} {sl7 : Array (Option Value)} {oc7 kV7 dc7 pm7 cd7 ct7 : Value}
    (a7 : PySem.W.nsIn K mainGlobals "_law_spring" = some (some (.ref f7))) (l7 : K.lookup f7 = some ⟨oc7, od7, .func (PySem.W.fnOf "_law_spring" "_law_spring" (defArgs s__law_spring) (defBody s__law_spring) (defScope s__law_spring) .none kV7 dc7 pm7 an7 cd7 ct7), sl7⟩) (c7 : PySem.W.codeIn K cd7 "_law_spring" = true) (k7 : PySem.W.keepIn K (.ref f7) = true)
    {f8 : Addr} {od8 an8 : Option Addr} {sl8 : Array (Option Value)} {oc8 kV8 dc8 pm8 cd8 ct8 : Value}
    (a8 : PySem.W.nsIn K mainGlobals "_law_drop" = some (some (.ref f8))) (l8 : K.lookup f8 = some ⟨oc8, od8, .func (PySem.W.fnOf "_law_drop" "_law_drop" (defArgs s__law_drop) (defBody s__law_drop) (defScope s__law_drop) .none kV8 dc8 pm8 an8 cd8 ct8), sl8⟩) (c8 : PySem.W.codeIn K cd8 "_law_drop" = true) (k8 : PySem.W.keepIn K (.ref f8) = true)
    {f9 : Addr} {od9 an9 : Option Addr} {sl9 : Array (Option Value)} {oc9 kV9 dc9 pm9 cd9 ct9 : Value}
    (a9 : PySem.W.nsIn K mainGlobals "_law_text" = some (some (.ref f9))) (l9 : K.lookup f9 = some ⟨oc9, od9, .func (PySem.W.fnOf "_law_text" "_law_text" (defArgs s__law_text) (defBody s__law_text) (defScope s__law_text) .none kV9 dc9 pm9 an9 cd9 ct9), sl9⟩) (c9 : PySem.W.codeIn K cd9 "_law_text" = true) (k9 : PySem.W.keepIn K (.ref f9) = true)
    {f10 : Addr} {od10 an10 : Option Addr} {sl10 : Array (Option Value)} {oc10 kV10 dc10 pm10 cd10 ct10 : Value}
    (a10 : PySem.W.nsIn K mainGlobals "_law_kinds" = some (some (.ref f10))) (l10 : K.lookup f10 = some ⟨oc10, od10, .func (PySem.W.fnOf "_law_kinds" "_law_kinds" (defArgs s__law_kinds) (defBody s__law_kinds) (defScope s__law_kinds) .none kV10 dc10 pm10 an10 cd10 ct10), sl10⟩) (c10 : PySem.W.codeIn K cd10 "_law_kinds" = true) (k10 : PySem.W.keepIn K (.ref f10) = true)
    {f11 : Addr} {od11 an11 : Option Addr} {sl11 : Array (Option Value)} {oc11 kV11 dc11 pm11 cd11 ct11 : Value}
    (a11 : PySem.W.nsIn K mainGlobals "_law_alike" = some (some (.ref f11))) (l11 : K.lookup f11 = some ⟨oc11, od11, .func (PySem.W.fnOf "_law_alike" "_law_alike" (defArgs s__law_alike) (defBody s__law_alike) (defScope s__law_alike) .none kV11 dc11 pm11 an11 cd11 ct11), sl11⟩) (c11 : PySem.W.codeIn K cd11 "_law_alike" = true) (k11 : PySem.W.keepIn K (.ref f11) = true)
    {f12 : Addr} {od12 an12 : Option Addr} {sl12 : Array (Option Value)} {oc12 kV12 dc12 pm12 cd12 ct12 : Value}
    (a12 : PySem.W.nsIn K mainGlobals "_law_number" = some (some (.ref f12))) (l12 : K.lookup f12 = some ⟨oc12, od12, .func (PySem.W.fnOf "_law_number" "_law_number" (defArgs s__law_number) (defBody s__law_number) (defScope s__law_number) .none kV12 dc12 pm12 an12 cd12 ct12), sl12⟩) (c12 : PySem.W.codeIn K cd12 "_law_number" = true) (k12 : PySem.W.keepIn K (.ref f12) = true)
    {f13 : Addr} {od13 an13 : Option Addr} {sl13 : Array (Option Value)} {oc13 kV13 dc13 pm13 cd13 ct13 : Value}
    (a13 : PySem.W.nsIn K mainGlobals "_law_written" = some (some (.ref f13))) (l13 : K.lookup f13 = some ⟨oc13, od13, .func (PySem.W.fnOf "_law_written" "_law_written" (defArgs s__law_written) (defBody s__law_written) (defScope s__law_written) .none kV13 dc13 pm13 an13 cd13 ct13), sl13⟩) (c13 : PySem.W.codeIn K cd13 "_law_written" = true) (k13 : PySem.W.keepIn K (.ref f13) = true)
    {f14 : Addr} {od14 an14 : Option Addr} {sl14 : Array (Option Value)} {oc14 kV14 dc14 pm14 cd14 ct14 : Value}
    (a14 : PySem.W.nsIn K mainGlobals "_law_read" = some (some (.ref f14))) (l14 : K.lookup f14 = some ⟨oc14, od14, .func (PySem.W.fnOf "_law_read" "_law_read" (defArgs s__law_read) (defBody s__law_read) (defScope s__law_read) .none kV14 dc14 pm14 an14 cd14 ct14), sl14⟩) (c14 : PySem.W.codeIn K cd14 "_law_read" = true) (k14 : PySem.W.keepIn K (.ref f14) = true)
    {f15 : Addr} {od15 an15 : Option Addr} {sl15 : Array (Option Value)} {oc15 kV15 dc15 pm15 cd15 ct15 : Value}
    (a15 : PySem.W.nsIn K mainGlobals "_law_spoilt" = some (some (.ref f15))) (l15 : K.lookup f15 = some ⟨oc15, od15, .func (PySem.W.fnOf "_law_spoilt" "_law_spoilt" (defArgs s__law_spoilt) (defBody s__law_spoilt) (defScope s__law_spoilt) .none kV15 dc15 pm15 an15 cd15 ct15), sl15⟩) (c15 : PySem.W.codeIn K cd15 "_law_spoilt" = true) (k15 : PySem.W.keepIn K (.ref f15) = true)
    {f16 : Addr} {od16 an16 : Option Addr} {sl16 : Array (Option Value)} {oc16 kV16 dc16 pm16 cd16 ct16 : Value}
    (a16 : PySem.W.nsIn K mainGlobals "law" = some (some (.ref f16))) (l16 : K.lookup f16 = some ⟨oc16, od16, .func (PySem.W.fnOf "law" "law" (defArgs s_law) (defBody s_law) (defScope s_law) .none kV16 dc16 pm16 an16 cd16 ct16), sl16⟩) (c16 : PySem.W.codeIn K cd16 "law" = true) (k16 : PySem.W.keepIn K (.ref f16) = true)
    (z0 : PySem.W.nsIn K mainGlobals "all" = some none)
    (z1 : PySem.W.nsIn K mainGlobals "bool" = some none)
    (z2 : PySem.W.nsIn K mainGlobals "int" = some none)
    (z3 : PySem.W.nsIn K mainGlobals "isinstance" = some none)
    (z4 : PySem.W.nsIn K mainGlobals "len" = some none)
    (z5 : PySem.W.nsIn K mainGlobals "list" = some none)
    (z6 : PySem.W.nsIn K mainGlobals "max" = some none)
    (z7 : PySem.W.nsIn K mainGlobals "range" = some none)
    (z8 : PySem.W.nsIn K mainGlobals "str" = some none)
    (z9 : PySem.W.nsIn K mainGlobals "tuple" = some none)
    (z10 : PySem.W.nsIn K mainGlobals "type" = some none)
    {t0 : Tok} (q0 : PySem.W.nsIn K mainGlobals "PIECE_HEAD" = some (some (.int 19 t0))) : Fx K mg :=
  {a_is_text := f0, fd_is_text := _, F_is_text := fun_mk (st := s_is_text) l0 c0 k0, g_is_text := PySem.W.mg_of X G a0, b_is_text := (fun_mk (st := s_is_text) l0 c0 k0).binds (ps := ["value"]) fun _ _ _ _ _ _ us hl => match us, hl with | [_], _ => rfl,
    a_number_at := f1, fd_number_at := _, F_number_at := fun_mk (st := s_number_at) l1 c1 k1, g_number_at := PySem.W.mg_of X G a1, b_number_at := (fun_mk (st := s_number_at) l1 c1 k1).binds (ps := ["text", "at", "size"]) fun _ _ _ _ _ _ us hl => match us, hl with | [_, _, _], _ => rfl,
    a_check_record := f2, fd_check_record := _, F_check_record := fun_mk (st := s_check_record) l2 c2 k2, g_check_record := PySem.W.mg_of X G a2, b_check_record := (fun_mk (st := s_check_record) l2 c2 k2).binds (ps := ["record"]) fun _ _ _ _ _ _ us hl => match us, hl with | [_], _ => rfl,
    a_piece_text := f3, fd_piece_text := _, F_piece_text := fun_mk (st := s_piece_text) l3 c3 k3, g_piece_text := PySem.W.mg_of X G a3, b_piece_text := (fun_mk (st := s_piece_text) l3 c3 k3).binds (ps := ["age", "number", "writer", "more", "part"]) fun _ _ _ _ _ _ us hl => match us, hl with | [_, _, _, _, _], _ => rfl,
    a_piece_told := f4, fd_piece_told := _, F_piece_told := fun_mk (st := s_piece_told) l4 c4 k4, g_piece_told := PySem.W.mg_of X G a4, b_piece_told := (fun_mk (st := s_piece_told) l4 c4 k4).binds (ps := ["block"]) fun _ _ _ _ _ _ us hl => match us, hl with | [_], _ => rfl,
    a_pieces_of := f5, fd_pieces_of := _, F_pieces_of := fun_mk (st := s_pieces_of) l5 c5 k5, g_pieces_of := PySem.W.mg_of X G a5, b_pieces_of := (fun_mk (st := s_pieces_of) l5 c5 k5).binds (ps := ["record", "signs"]) fun _ _ _ _ _ _ us hl => match us, hl with | [_, _], _ => rfl,
    a_parts_of := f6, fd_parts_of := _, F_parts_of := fun_mk (st := s_parts_of) l6 c6 k6, g_parts_of := PySem.W.mg_of X G a6, b_parts_of := (fun_mk (st := s_parts_of) l6 c6 k6).binds (ps := ["record", "signs"]) fun _ _ _ _ _ _ us hl => match us, hl with | [_, _], _ => rfl,
    a__law_spring := f7, fd__law_spring := _, F__law_spring := fun_mk (st := s__law_spring) l7 c7 k7, g__law_spring := PySem.W.mg_of X G a7, b__law_spring := (fun_mk (st := s__law_spring) l7 c7 k7).binds (ps := ["_law_script"]) fun _ _ _ _ _ _ us hl => match us, hl with | [_], _ => rfl,
    a__law_drop := f8, fd__law_drop := _, F__law_drop := fun_mk (st := s__law_drop) l8 c8 k8, g__law_drop := PySem.W.mg_of X G a8, b__law_drop := (fun_mk (st := s__law_drop) l8 c8 k8).binds (ps := ["_law_spring_here", "_law_many"]) fun _ _ _ _ _ _ us hl => match us, hl with | [_, _], _ => rfl,
    a__law_text := f9, fd__law_text := _, F__law_text := fun_mk (st := s__law_text) l9 c9 k9, g__law_text := PySem.W.mg_of X G a9, b__law_text := (fun_mk (st := s__law_text) l9 c9 k9).binds (ps := ["_law_spring_here", "_law_size"]) fun _ _ _ _ _ _ us hl => match us, hl with | [_, _], _ => rfl,
    a__law_kinds := f10, fd__law_kinds := _, F__law_kinds := fun_mk (st := s__law_kinds) l10 c10 k10, g__law_kinds := PySem.W.mg_of X G a10, b__law_kinds := (fun_mk (st := s__law_kinds) l10 c10 k10).binds (ps := ["_law_thing"]) fun _ _ _ _ _ _ us hl => match us, hl with | [_], _ => rfl,
    a__law_alike := f11, fd__law_alike := _, F__law_alike := fun_mk (st := s__law_alike) l11 c11 k11, g__law_alike := PySem.W.mg_of X G a11, b__law_alike := (fun_mk (st := s__law_alike) l11 c11 k11).binds (ps := ["_law_found", "_law_due"]) fun _ _ _ _ _ _ us hl => match us, hl with | [_, _], _ => rfl,
    a__law_number := f12, fd__law_number := _, F__law_number := fun_mk (st := s__law_number) l12 c12 k12, g__law_number := PySem.W.mg_of X G a12, b__law_number := (fun_mk (st := s__law_number) l12 c12 k12).binds (ps := ["_law_spring_here"]) fun _ _ _ _ _ _ us hl => match us, hl with | [_], _ => rfl,
    a__law_written := f13, fd__law_written := _, F__law_written := fun_mk (st := s__law_written) l13 c13 k13, g__law_written := PySem.W.mg_of X G a13, b__law_written := (fun_mk (st := s__law_written) l13 c13 k13).binds (ps := ["_law_age", "_law_number_here", "_law_writer", "_law_more", "_law_part"]) fun _ _ _ _ _ _ us hl => match us, hl with | [_, _, _, _, _], _ => rfl,
    a__law_read := f14, fd__law_read := _, F__law_read := fun_mk (st := s__law_read) l14 c14 k14, g__law_read := PySem.W.mg_of X G a14, b__law_read := (fun_mk (st := s__law_read) l14 c14 k14).binds (ps := ["_law_block"]) fun _ _ _ _ _ _ us hl => match us, hl with | [_], _ => rfl,
    a__law_spoilt := f15, fd__law_spoilt := _, F__law_spoilt := fun_mk (st := s__law_spoilt) l15 c15 k15, g__law_spoilt := PySem.W.mg_of X G a15, b__law_spoilt := (fun_mk (st := s__law_spoilt) l15 c15 k15).binds (ps := ["_law_spring_here", "_law_block"]) fun _ _ _ _ _ _ us hl => match us, hl with | [_, _], _ => rfl,
    a_law := f16, fd_law := _, F_law := fun_mk (st := s_law) l16 c16 k16, g_law := PySem.W.mg_of X G a16, b_law := (fun_mk (st := s_law) l16 c16 k16).binds (ps := ["_law_script"]) fun _ _ _ _ _ _ us hl => match us, hl with | [_], _ => rfl,
    kb_piece_text_0 := kbm_kb_piece_text_0 (fun_mk (st := s_piece_text) l3 c3 k3),
    kb_piece_told_0 := kbm_kb_piece_told_0 (fun_mk (st := s_piece_told) l4 c4 k4),
    kb_pieces_of_0 := kbm_kb_pieces_of_0 (fun_mk (st := s_pieces_of) l5 c5 k5),
    m_all := PySem.W.mg_none_of X G z0,
    m_bool := PySem.W.mg_none_of X G z1,
    m_int := PySem.W.mg_none_of X G z2,
    m_isinstance := PySem.W.mg_none_of X G z3,
    m_len := PySem.W.mg_none_of X G z4,
    m_list := PySem.W.mg_none_of X G z5,
    m_max := PySem.W.mg_none_of X G z6,
    m_range := PySem.W.mg_none_of X G z7,
    m_str := PySem.W.mg_none_of X G z8,
    m_tuple := PySem.W.mg_none_of X G z9,
    m_type := PySem.W.mg_none_of X G z10,
    c_PIECE_HEAD := ⟨t0, PySem.W.mg_of X G q0⟩ }
theorem all_mk {l : PySem.W.OpenLaw} {w : World} {K : PySem.W.Frag} {h : Heap} {mg : Str → Option Value} {fa : Addr} (X : K.In h) (G : h.Ns mainGlobals mg) (hfa : mg "law" = some (.ref fa))
    {f0 : Addr} {od0 an0 : Option Addr} {sl0 : Array (Option Value)} {oc0 kV0 dc0 pm0 cd0 ct0 : Value}
    (a0 : PySem.W.nsIn K mainGlobals "is_text" = some (some (.ref f0))) (l0 : K.lookup f0 = some ⟨oc0, od0, .func (PySem.W.fnOf "is_text" "is_text" (defArgs s_is_text) (defBody s_is_text) (defScope s_is_text) .none kV0 dc0 pm0 an0 cd0 ct0), sl0⟩) (c0 : PySem.W.codeIn K cd0 "is_text" = true) (k0 : PySem.W.keepIn K (.ref f0) = true)
    {f1 : Addr} {od1 an1 : Option Addr} {sl1 : Array (Option Value)} {oc1 kV1 dc1 pm1 cd1 ct1 : Value}
    (a1 : PySem.W.nsIn K mainGlobals "number_at" = some (some (.ref f1))) (l1 : K.lookup f1 = some ⟨oc1, od1, .func (PySem.W.fnOf "number_at" "number_at" (defArgs s_number_at) (defBody s_number_at) (defScope s_number_at) .none kV1 dc1 pm1 an1 cd1 ct1), sl1⟩) (c1 : PySem.W.codeIn K cd1 "number_at" = true) (k1 : PySem.W.keepIn K (.ref f1) = true)
    {f2 : Addr} {od2 an2 : Option Addr} {sl2 : Array (Option Value)} {oc2 kV2 dc2 pm2 cd2 ct2 : Value}
    (a2 : PySem.W.nsIn K mainGlobals "check_record" = some (some (.ref f2))) (l2 : K.lookup f2 = some ⟨oc2, od2, .func (PySem.W.fnOf "check_record" "check_record" (defArgs s_check_record) (defBody s_check_record) (defScope s_check_record) .none kV2 dc2 pm2 an2 cd2 ct2), sl2⟩) (c2 : PySem.W.codeIn K cd2 "check_record" = true) (k2 : PySem.W.keepIn K (.ref f2) = true)
    {f3 : Addr} {od3 an3 : Option Addr} {sl3 : Array (Option Value)} {oc3 kV3 dc3 pm3 cd3 ct3 : Value}
    (a3 : PySem.W.nsIn K mainGlobals "piece_text" = some (some (.ref f3))) (l3 : K.lookup f3 = some ⟨oc3, od3, .func (PySem.W.fnOf "piece_text" "piece_text" (defArgs s_piece_text) (defBody s_piece_text) (defScope s_piece_text) .none kV3 dc3 pm3 an3 cd3 ct3), sl3⟩) (c3 : PySem.W.codeIn K cd3 "piece_text" = true) (k3 : PySem.W.keepIn K (.ref f3) = true)
    {f4 : Addr} {od4 an4 : Option Addr} {sl4 : Array (Option Value)} {oc4 kV4 dc4 pm4 cd4 ct4 : Value}
    (a4 : PySem.W.nsIn K mainGlobals "piece_told" = some (some (.ref f4))) (l4 : K.lookup f4 = some ⟨oc4, od4, .func (PySem.W.fnOf "piece_told" "piece_told" (defArgs s_piece_told) (defBody s_piece_told) (defScope s_piece_told) .none kV4 dc4 pm4 an4 cd4 ct4), sl4⟩) (c4 : PySem.W.codeIn K cd4 "piece_told" = true) (k4 : PySem.W.keepIn K (.ref f4) = true)
    {f5 : Addr} {od5 an5 : Option Addr} {sl5 : Array (Option Value)} {oc5 kV5 dc5 pm5 cd5 ct5 : Value}
    (a5 : PySem.W.nsIn K mainGlobals "pieces_of" = some (some (.ref f5))) (l5 : K.lookup f5 = some ⟨oc5, od5, .func (PySem.W.fnOf "pieces_of" "pieces_of" (defArgs s_pieces_of) (defBody s_pieces_of) (defScope s_pieces_of) .none kV5 dc5 pm5 an5 cd5 ct5), sl5⟩) (c5 : PySem.W.codeIn K cd5 "pieces_of" = true) (k5 : PySem.W.keepIn K (.ref f5) = true)
    {f6 : Addr} {od6 an6 : Option Addr} {sl6 : Array (Option Value)} {oc6 kV6 dc6 pm6 cd6 ct6 : Value}
    (a6 : PySem.W.nsIn K mainGlobals "parts_of" = some (some (.ref f6))) (l6 : K.lookup f6 = some ⟨oc6, od6, .func (PySem.W.fnOf "parts_of" "parts_of" (defArgs s_parts_of) (defBody s_parts_of) (defScope s_parts_of) .none kV6 dc6 pm6 an6 cd6 ct6), sl6⟩) (c6 : PySem.W.codeIn K cd6 "parts_of" = true) (k6 : PySem.W.keepIn K (.ref f6) = true)
    {f7 : Addr} {od7 an7 : Option Addr} {sl7 : Array (Option Value)} {oc7 kV7 dc7 pm7 cd7 ct7 : Value}
    (a7 : PySem.W.nsIn K mainGlobals "_law_spring" = some (some (.ref f7))) (l7 : K.lookup f7 = some ⟨oc7, od7, .func (PySem.W.fnOf "_law_spring" "_law_spring" (defArgs s__law_spring) (defBody s__law_spring) (defScope s__law_spring) .none kV7 dc7 pm7 an7 cd7 ct7), sl7⟩) (c7 : PySem.W.codeIn K cd7 "_law_spring" = true) (k7 : PySem.W.keepIn K (.ref f7) = true)
    {f8 : Addr} {od8 an8 : Option Addr} {sl8 : Array (Option Value)} {oc8 kV8 dc8 pm8 cd8 ct8 : Value}
    (a8 : PySem.W.nsIn K mainGlobals "_law_drop" = some (some (.ref f8))) (l8 : K.lookup f8 = some ⟨oc8, od8, .func (PySem.W.fnOf "_law_drop" "_law_drop" (defArgs s__law_drop) (defBody s__law_drop) (defScope s__law_drop) .none kV8 dc8 pm8 an8 cd8 ct8), sl8⟩) (c8 : PySem.W.codeIn K cd8 "_law_drop" = true) (k8 : PySem.W.keepIn K (.ref f8) = true)
    {f9 : Addr} {od9 an9 : Option Addr} {sl9 : Array (Option Value)} {oc9 kV9 dc9 pm9 cd9 ct9 : Value}
    (a9 : PySem.W.nsIn K mainGlobals "_law_text" = some (some (.ref f9))) (l9 : K.lookup f9 = some ⟨oc9, od9, .func (PySem.W.fnOf "_law_text" "_law_text" (defArgs s__law_text) (defBody s__law_text) (defScope s__law_text) .none kV9 dc9 pm9 an9 cd9 ct9), sl9⟩) (c9 : PySem.W.codeIn K cd9 "_law_text" = true) (k9 : PySem.W.keepIn K (.ref f9) = true)
    {f10 : Addr} {od10 an10 : Option Addr} {sl10 : Array (Option Value)} {oc10 kV10 dc10 pm10 cd10 ct10 : Value}
    (a10 : PySem.W.nsIn K mainGlobals "_law_kinds" = some (some (.ref f10))) (l10 : K.lookup f10 = some ⟨oc10, od10, .func (PySem.W.fnOf "_law_kinds" "_law_kinds" (defArgs s__law_kinds) (defBody s__law_kinds) (defScope s__law_kinds) .none kV10 dc10 pm10 an10 cd10 ct10), sl10⟩) (c10 : PySem.W.codeIn K cd10 "_law_kinds" = true) (k10 : PySem.W.keepIn K (.ref f10) = true)
    {f11 : Addr} {od11 an11 : Option Addr} {sl11 : Array (Option Value)} {oc11 kV11 dc11 pm11 cd11 ct11 : Value}
    (a11 : PySem.W.nsIn K mainGlobals "_law_alike" = some (some (.ref f11))) (l11 : K.lookup f11 = some ⟨oc11, od11, .func (PySem.W.fnOf "_law_alike" "_law_alike" (defArgs s__law_alike) (defBody s__law_alike) (defScope s__law_alike) .none kV11 dc11 pm11 an11 cd11 ct11), sl11⟩) (c11 : PySem.W.codeIn K cd11 "_law_alike" = true) (k11 : PySem.W.keepIn K (.ref f11) = true)
    {f12 : Addr} {od12 an12 : Option Addr} {sl12 : Array (Option Value)} {oc12 kV12 dc12 pm12 cd12 ct12 : Value}
    (a12 : PySem.W.nsIn K mainGlobals "_law_number" = some (some (.ref f12))) (l12 : K.lookup f12 = some ⟨oc12, od12, .func (PySem.W.fnOf "_law_number" "_law_number" (defArgs s__law_number) (defBody s__law_number) (defScope s__law_number) .none kV12 dc12 pm12 an12 cd12 ct12), sl12⟩) (c12 : PySem.W.codeIn K cd12 "_law_number" = true) (k12 : PySem.W.keepIn K (.ref f12) = true)
    {f13 : Addr} {od13 an13 : Option Addr} {sl13 : Array (Option Value)} {oc13 kV13 dc13 pm13 cd13 ct13 : Value}
    (a13 : PySem.W.nsIn K mainGlobals "_law_written" = some (some (.ref f13))) (l13 : K.lookup f13 = some ⟨oc13, od13, .func (PySem.W.fnOf "_law_written" "_law_written" (defArgs s__law_written) (defBody s__law_written) (defScope s__law_written) .none kV13 dc13 pm13 an13 cd13 ct13), sl13⟩) (c13 : PySem.W.codeIn K cd13 "_law_written" = true) (k13 : PySem.W.keepIn K (.ref f13) = true)
    {f14 : Addr} {od14 an14 : Option Addr} {sl14 : Array (Option Value)} {oc14 kV14 dc14 pm14 cd14 ct14 : Value}
    (a14 : PySem.W.nsIn K mainGlobals "_law_read" = some (some (.ref f14))) (l14 : K.lookup f14 = some ⟨oc14, od14, .func (PySem.W.fnOf "_law_read" "_law_read" (defArgs s__law_read) (defBody s__law_read) (defScope s__law_read) .none kV14 dc14 pm14 an14 cd14 ct14), sl14⟩) (c14 : PySem.W.codeIn K cd14 "_law_read" = true) (k14 : PySem.W.keepIn K (.ref f14) = true)
    {f15 : Addr} {od15 an15 : Option Addr} {sl15 : Array (Option Value)} {oc15 kV15 dc15 pm15 cd15 ct15 : Value}
    (a15 : PySem.W.nsIn K mainGlobals "_law_spoilt" = some (some (.ref f15))) (l15 : K.lookup f15 = some ⟨oc15, od15, .func (PySem.W.fnOf "_law_spoilt" "_law_spoilt" (defArgs s__law_spoilt) (defBody s__law_spoilt) (defScope s__law_spoilt) .none kV15 dc15 pm15 an15 cd15 ct15), sl15⟩) (c15 : PySem.W.codeIn K cd15 "_law_spoilt" = true) (k15 : PySem.W.keepIn K (.ref f15) = true)
    {f16 : Addr} {od16 an16 : Option Addr} {sl16 : Array (Option Value)} {oc16 kV16 dc16 pm16 cd16 ct16 : Value}
    (a16 : PySem.W.nsIn K mainGlobals "law" = some (some (.ref f16))) (l16 : K.lookup f16 = some ⟨oc16, od16, .func (PySem.W.fnOf "law" "law" (defArgs s_law) (defBody s_law) (defScope s_law) .none kV16 dc16 pm16 an16 cd16 ct16), sl16⟩) (c16 : PySem.W.codeIn K cd16 "law" = true) (k16 : PySem.W.keepIn K (.ref f16) = true)
    (z0 : PySem.W.nsIn K mainGlobals "all" = some none)
    (z1 : PySem.W.nsIn K mainGlobals "bool" = some none)
    (z2 : PySem.W.nsIn K mainGlobals "int" = some none)
    (z3 : PySem.W.nsIn K mainGlobals "isinstance" = some none)
    (z4 : PySem.W.nsIn K mainGlobals "len" = some none)
    (z5 : PySem.W.nsIn K mainGlobals "list" = some none)
    (z6 : PySem.W.nsIn K mainGlobals "max" = some none)
    (z7 : PySem.W.nsIn K mainGlobals "range" = some none)
    (z8 : PySem.W.nsIn K mainGlobals "str" = some none)
    (z9 : PySem.W.nsIn K mainGlobals "tuple" = some none)
    (z10 : PySem.W.nsIn K mainGlobals "type" = some none)
    {t0 : Tok} (q0 : PySem.W.nsIn K mainGlobals "PIECE_HEAD" = some (some (.int 19 t0))) :
    ∃ fd : FuncData, (∀ (s : Shared) (v : Value), BindsTo s fd ⟨[v], []⟩ [("_law_script", v)]) ∧ ∀ base : Heap, K.In base → base.Ns mainGlobals mg → FnOk l.prog w K mg base CX0 5 fa fd ["_law_script"] (spLaw K) := by
  have e := hfa.symm.trans (PySem.W.mg_of X G a16)
  cases e
  have Y := fx_mk X G a0 l0 c0 k0 a1 l1 c1 k1 a2 l2 c2 k2 a3 l3 c3 k3 a4 l4 c4 k4 a5 l5 c5 k5 a6 l6 c6 k6 a7 l7 c7 k7 a8 l8 c8 k8 a9 l9 c9 k9 a10 l10 c10 k10 a11 l11 c11 k11 a12 l12 c12 k12 a13 l13 c13 k13 a14 l14 c14 k14 a15 l15 c15 k15 a16 l16 c16 k16 z0 z1 z2 z3 z4 z5 z6 z7 z8 z9 z10 q0
  exact ⟨PySem.W.fnOf "law" "law" (defArgs s_law) (defBody s_law) (defScope s_law) .none kV16 dc16 pm16 an16 cd16 ct16, fun s v => .of_eq rfl, fun base _ _ => ok_law (fx_mk X G a0 l0 c0 k0 a1 l1 c1 k1 a2 l2 c2 k2 a3 l3 c3 k3 a4 l4 c4 k4 a5 l5 c5 k5 a6 l6 c6 k6 a7 l7 c7 k7 a8 l8 c8 k8 a9 l9 c9 k9 a10 l10 c10 k10 a11 l11 c11 k11 a12 l12 c12 k12 a13 l13 c13 k13 a14 l14 c14 k14 a15 l15 c15 k15 a16 l16 c16 k16 z0 z1 z2 z3 z4 z5 z6 z7 z8 z9 z10 q0)⟩
end My
open PySem PySem.W PyProof.Rows
set_option maxHeartbeats 0 in
theorem PySem.Challenge.cw_heldpasts_k02_pieces_holds : PySem.Challenge.rw_heldpasts_k02_pieces.Holds := by
  w_on; o_law; k_head; (case hw => w_witness2)
  k_fill
  refine L2.walk_of (l := PySem.Challenge.rw_heldpasts_k02_pieces) (n := 63) (k := 5) (x := "_law_script") (CX := fun _ => L2.CX0) (sp := fun w => My.spLaw _) rfl (by decide) rfl ⟨rfl, by decide, by decide⟩ (fun w h Y => PySem.W.kIn_of Y) ?F (fun _ _ a ns hl _ hS => ⟨a, ns, rfl, hS, hl, fun _ => rfl⟩) (fun _ _ _ _ _ h => h)
  case F =>
    intro w mg fa h KX G hmg
    refine' My.all_mk KX G hmg ?a0 ?l0 ?c0 ?k0 ?a1 ?l1 ?c1 ?k1 ?a2 ?l2 ?c2 ?k2 ?a3 ?l3 ?c3 ?k3 ?a4 ?l4 ?c4 ?k4 ?a5 ?l5 ?c5 ?k5 ?a6 ?l6 ?c6 ?k6 ?a7 ?l7 ?c7 ?k7 ?a8 ?l8 ?c8 ?k8 ?a9 ?l9 ?c9 ?k9 ?a10 ?l10 ?c10 ?k10 ?a11 ?l11 ?c11 ?k11 ?a12 ?l12 ?c12 ?k12 ?a13 ?l13 ?c13 ?k13 ?a14 ?l14 ?c14 ?k14 ?a15 ?l15 ?c15 ?k15 ?a16 ?l16 ?c16 ?k16 ?z0 ?z1 ?z2 ?z3 ?z4 ?z5 ?z6 ?z7 ?z8 ?z9 ?z10 ?q0
    (case a0 => k_is); (case l0 => k_is); (case c0 => k_is); (case k0 => k_is); (case a1 => k_is); (case l1 => k_is); (case c1 => k_is); (case k1 => k_is); (case a2 => k_is); (case l2 => k_is); (case c2 => k_is); (case k2 => k_is); (case a3 => k_is); (case l3 => k_is); (case c3 => k_is); (case k3 => k_is); (case a4 => k_is); (case l4 => k_is); (case c4 => k_is); (case k4 => k_is); (case a5 => k_is); (case l5 => k_is); (case c5 => k_is); (case k5 => k_is); (case a6 => k_is); (case l6 => k_is); (case c6 => k_is); (case k6 => k_is); (case a7 => k_is); (case l7 => k_is); (case c7 => k_is); (case k7 => k_is); (case a8 => k_is); (case l8 => k_is); (case c8 => k_is); (case k8 => k_is); (case a9 => k_is); (case l9 => k_is); (case c9 => k_is); (case k9 => k_is); (case a10 => k_is); (case l10 => k_is); (case c10 => k_is); (case k10 => k_is); (case a11 => k_is); (case l11 => k_is); (case c11 => k_is); (case k11 => k_is); (case a12 => k_is); (case l12 => k_is); (case c12 => k_is); (case k12 => k_is); (case a13 => k_is); (case l13 => k_is); (case c13 => k_is); (case k13 => k_is); (case a14 => k_is); (case l14 => k_is); (case c14 => k_is); (case k14 => k_is); (case a15 => k_is); (case l15 => k_is); (case c15 => k_is); (case k15 => k_is); (case a16 => k_is); (case l16 => k_is); (case c16 => k_is); (case k16 => k_is); (case z0 => k_is); (case z1 => k_is); (case z2 => k_is); (case z3 => k_is); (case z4 => k_is); (case z5 => k_is); (case z6 => k_is); (case z7 => k_is); (case z8 => k_is); (case z9 => k_is); (case z10 => k_is); (case q0 => k_is)

